/-
  The program's Relabel.
-/
import Derived.Test.YtdkckdbpbdhoaaaEdW1
import Derived.Test.YtdkckdbpbdhoaaaEdPl
import Derived.Test.YtdkckdbpbdhoaaaEdRn
namespace Go.Proofs.Ytdkckdbpbdhoaaa
open Go.RowKit Go.Sort

theorem Ed.inj_of {n : Int} {l : List Int} (h : Ed.Once n l) : Ed.Inj l := by
  intro i j x hi hj _
  obtain ⟨a, ea⟩ := List.getElem?_eq_some_iff.1 hi
  obtain ⟨b, eb⟩ := List.getElem?_eq_some_iff.1 hj
  exact (List.getElem_inj h.2).1 (ea.trans eb.symm)

set_option maxRecDepth 100000 in
set_option maxHeartbeats 8000000 in
theorem erelabel_any (n : Int) (lo : Option Addr) (q lc : Nat) (l : List Int) (ao : Option Addr) (cap : Nat) (es : List (Int × Int)) (w : World) (he : EdgesAt w ao es) (hl : es.length ≤ 4611686018427387904) (hq : l.length = q) (hat : IntsAt w lo l) (hlq : q ≤ 4611686018427387904) :
    Calls Try.prog 22 #[graphVal n ao es.length cap, .slice lo q lc] w (AnsP (Ed.relabel n es l) w) := by
  have HE := Nu.hid he
  have hva := fun W (hb : Below w.heap.size w W) => valid_any n ao cap es W (he.later hb) hl
  have hB0 := Bx1.start (w := w) (n := n) (ao := ao) (cap := cap) (es := es)
  unfold graphVal at hva ⊢
  have HVA := Nu.hid hva
  have HB0 := Nu.hid hB0
  have HRF := Nu.hid refuse_any
  have HAT := Nu.hid hat
  have HQ := Nu.hid hq
  clear he hva hB0 hat hq
  cases hv : Si.valid n es with
  | false =>
    have hr : Ed.relabel n es l = (0, [], 1) := by unfold Ed.relabel; rw [if_pos hv]
    rw [hr]
    rw [hv] at HVA
    clear hv hr
    go_enter Try.func22, Try.ntmps22
    go_wp2_with (go_at_call 35; refine (HVA.out _ HB0.out.low).mono ?_; rintro e w1 ⟨rfl, hb⟩; refine Hid.out ?_)
    refine Nu.hid ?_
    have HB1 := Nu.hid (HB0.out.later hb)
    clear hb
    obtain ⟨g0, g1⟩ := HB1.out.cells
    have hs1 := HB1.out.size
    have hs0 : w.heap.size < w1.heap.size := by omega
    go_wp2_with (go_at_call 36; refine (HRF.out _ _).mono ?_; rintro e w2 ⟨rfl, hb⟩; have HB2 := Nu.hid (HB1.out.later hb); clear hb; obtain ⟨r0, r1⟩ := HB2.out.rcells; have f0 := HB2.out.free 0; have f1 := HB2.out.free 1)
    obtain ⟨hb, s0, s1⟩ := HB2.out.store (.int .i64 0) (.slice none 0 0)
    refine bodyPost_ret (v := .tuple #[.agg #[.int .i64 0, .slice none 0 0], .int .i64 1]) (by simp [results, Try.results22, go_sem, s0, s1]) rfl ?_
    exact ⟨_, rfl, OwnE.nil _ _, hb⟩
  | true =>
    have hval := Si.valid_iff.1 hv
    have hfew := hval.few
    have hlo := hval.lo
    have hhi := hval.hi
    have HVAL := Nu.hid hval
    have HV := Nu.hid hv
    rw [hv] at HVA
    clear hv hval
    obtain ⟨m, rfl⟩ : ∃ m : Nat, n = (m : Int) := ⟨n.toNat, by omega⟩
    have hpl := fun W (hb : Below w.heap.size w W) => places_any m lo q lc l W HQ.out (HAT.out.later hb) (by omega) hlq
    unfold PlacesPost at hpl
    have HPL := Nu.hid hpl
    clear hpl hhi hlo
    go_enter Try.func22, Try.ntmps22
    go_wp2_with (go_at_call 35; refine (HVA.out _ HB0.out.low).mono ?_; rintro e w1 ⟨rfl, hb⟩; refine Hid.out ?_)
    refine Nu.hid ?_
    have HB1 := Nu.hid (HB0.out.later hb)
    clear hb
    obtain ⟨g0, g1⟩ := HB1.out.cells
    have hs1 := HB1.out.size
    have hs0 : w.heap.size < w1.heap.size := by omega
    go_wp2_with (go_at_call 45; refine (HPL.out _ HB1.out.low).mono ?_; refine Hid.out ?_)
    refine Nu.hid ?_
    rintro e w2 ⟨hpp, hb⟩
    have HB1 := Nu.hid (HB1.out.later hb)
    clear hb g0 g1 hs1 hs0
    obtain ⟨g0, g1⟩ := HB1.out.cells
    have hs1 := HB1.out.size
    have hs0 : w.heap.size < w2.heap.size := by omega
    rcases hpp with ⟨hon, g, rfl, hib, hgg⟩ | ⟨hno, rfl⟩
    · have HON := Nu.hid hon
      clear hib hgg hon
      by_cases hqm : q = m
      · have hr : Ed.relabel (m : Int) es l = ((m : Int), Ed.named l es, 0) := by
          unfold Ed.relabel
          rw [if_neg (by rw [HV.out]; simp), if_neg]
          intro h
          exact h ⟨HON.out, by rw [HQ.out, hqm]⟩
        have HR := Nu.hid hr
        have hne : ((q : Int) != (m : Int)) = false := by simp [hqm]
        have hrn := fun W (hb : Below w.heap.size w W) => rename_any lo lc q l ao cap es W (HE.out.later hb) hfew HQ.out (HAT.out.later hb) (Ed.val_fits HVAL.out (by rw [HQ.out, hqm])) (Ed.inj_of HON.out) (Si.sorted_nodup (Ed.sorted_of_val HVAL.out)) (fun x hx => by have := HON.out.1 x hx; omega)
        have HRN := Nu.hid hrn
        clear hrn hr hqm
        go_wp2
        go_region_held3 (fun w' => w'.cell? ⟨w.heap.size, 0, none⟩ = some (.int .i64 (m : Int)) ∧ w'.cell? ⟨w.heap.size, 1, none⟩ = some (.slice ao es.length cap))
          (first
          | (go_keep; done)
          | (go_split_ands
             (try dsimp only); (repeat' apply And.intro) <;> (refine (hb3.cell (p := ⟨_, _, none⟩) ?_).trans ?_ <;> first | assumption | (simp; omega)))
          | (go_split_ands
             (try dsimp only); (repeat' apply And.intro) <;> (refine (hb4.cell (p := ⟨_, _, none⟩) ?_).trans ?_ <;> first | assumption | (simp; omega)))
          | (go_split_ands; (try dsimp only); (repeat' apply And.intro) <;> (refine (cell_put2 ?_ _ _).trans ?_ <;> first | assumption | omega | (simp; done))))
          ((go_at_call 46; refine (HRN.out _ HB1.out.low.drew).mono ?_; rintro e w3 ⟨v, rfl, hown, hb3'⟩; have hb3 : Below w2.heap.size w2 w3 := (Below.refl w2.heap.size w2).drew.trans hb3'; have hown2 : OwnE w3 w.heap.size v (Ed.named l es) := hown.lower (by have := HB1.out.size; simp; omega); obtain ⟨va, vc, rfl, -, -, -, -⟩ := hown.form; have HB3 := Nu.hid (HB1.out.later hb3); obtain ⟨r0, r1⟩ := HB3.out.rcells; have f0 := HB3.out.free 0; have f1 := HB3.out.free 1))
        have HOWN := Nu.hid hown2
        have HFAR := Nu.hid (hown.far (b := w.heap.size + 1) (by simp; omega))
        clear hown2 hown hb3 hb3'
        go_wp2
        obtain ⟨hb, s0, s1⟩ := HB3.out.store (.int .i64 (m : Int)) (.slice va (Ed.named l es).length vc)
        refine bodyPost_ret (v := .tuple #[.agg #[.int .i64 (m : Int), .slice va (Ed.named l es).length vc], .int .i64 0]) (by simp [results, Try.results22, go_sem, s0, s1]) rfl ?_
        rw [HR.out]
        exact ⟨_, rfl, own_put2 HOWN.out HFAR.out _ _, hb⟩
      · have hr : Ed.relabel (m : Int) es l = (0, [], 2) := by
          unfold Ed.relabel
          rw [if_neg (by rw [HV.out]; simp), if_pos]
          intro h
          have := h.2
          rw [HQ.out] at this
          omega
        have HR := Nu.hid hr
        have hne : ((q : Int) != (m : Int)) = true := by simp; omega
        clear hr hqm
        go_wp2_with (go_at_call 36; refine (HRF.out _ _).mono ?_; rintro e wz ⟨rfl, hb⟩; have HB2 := Nu.hid (HB1.out.later hb); clear hb; obtain ⟨r0, r1⟩ := HB2.out.rcells; have f0 := HB2.out.free 0; have f1 := HB2.out.free 1)
        obtain ⟨hb, s0, s1⟩ := HB2.out.store (.int .i64 0) (.slice none 0 0)
        refine bodyPost_ret (v := .tuple #[.agg #[.int .i64 0, .slice none 0 0], .int .i64 2]) (by simp [results, Try.results22, go_sem, s0, s1]) rfl ?_
        rw [HR.out]
        exact ⟨_, rfl, OwnE.nil _ _, hb⟩
    · have hr : Ed.relabel (m : Int) es l = (0, [], 2) := by
        unfold Ed.relabel
        rw [if_neg (by rw [HV.out]; simp), if_pos (fun h => hno h.1)]
      have HR := Nu.hid hr
      clear hr hno
      go_wp2_with (go_at_call 36; refine (HRF.out _ _).mono ?_; rintro e wz ⟨rfl, hb⟩; have HB2 := Nu.hid (HB1.out.later hb); clear hb; obtain ⟨r0, r1⟩ := HB2.out.rcells; have f0 := HB2.out.free 0; have f1 := HB2.out.free 1)
      obtain ⟨hb, s0, s1⟩ := HB2.out.store (.int .i64 0) (.slice none 0 0)
      refine bodyPost_ret (v := .tuple #[.agg #[.int .i64 0, .slice none 0 0], .int .i64 2]) (by simp [results, Try.results22, go_sem, s0, s1]) rfl ?_
      rw [HR.out]
      exact ⟨_, rfl, OwnE.nil _ _, hb⟩

end Go.Proofs.Ytdkckdbpbdhoaaa
