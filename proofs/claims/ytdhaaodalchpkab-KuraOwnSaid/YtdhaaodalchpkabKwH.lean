/-
  Layer 15: the document's Recognise as the one answer; how long what it answers may be.
-/
import Derived.Test.YtdhaaodalchpkabKwG
import Derived.Test.YtdhaaodalchpkabKuV
namespace Go.Proofs.Ytdhaaodalchpkab
open Go.RowKit

theorem Ku.kr_small (n : Int) (es : List (Int × Int)) : (Ku.kr n es).2.1.length ≤ 1048576 ∧ (Ku.kr n es).2.2.1.length ≤ 4194304 ∧ ∀ l ∈ (Ku.kr n es).2.2.1, l.length ≤ 17592186044000 := by
  unfold Ku.kr
  by_cases hv : Si.Val n es
  · rw [dif_pos hv]
    have hm := hv.hi
    have hs := Ku.rows_small hv
    have hb := Ku.brs_length es n.toNat
    have hpath : ∀ p, (Ku.pathOf (Ku.rows es hv es.length) p).length ≤ 17592186044000 := fun p => by
      unfold Ku.pathOf Ku.fromL
      have : ((Ku.rows es hv es.length).getD ((Ku.idx (Ku.rows es hv es.length) p).getD 0) []).length ≤ 17592186044000 := by
        rw [List.getD_eq_getElem?_getD]
        cases h : (Ku.rows es hv es.length)[(Ku.idx (Ku.rows es hv es.length) p).getD 0]? with
        | none => simp
        | some l => exact (hs.2 l (List.mem_of_getElem? h)).2.1
      split
      · exact this
      · rw [List.length_reverse]
        exact this
    have hk : ∀ (kd : Int) (br : List Int) (ps : List (Int × Int)), br.length ≤ 1048576 → (∀ x, Ku.kur (Ku.rows es hv es.length) kd br ps = some x → x.2.1.length ≤ 1048576 ∧ x.2.2.length ≤ 4194304 ∧ ∀ l ∈ x.2.2, l.length ≤ 17592186044000) := fun kd br ps hbr x hx => by
      unfold Ku.kur at hx
      split at hx
      · rename_i hA
        cases hx
        refine ⟨hbr, ?_, fun l hl => ?_⟩
        · dsimp only
          rw [List.length_map, ← hA.1]
          exact hs.1
        · obtain ⟨p, _, rfl⟩ := List.mem_map.1 hl
          exact hpath p
      · cases hx
    have hr : ∀ x, Ku.recA (Ku.rows es hv es.length) es n.toNat = some x → x.2.1.length ≤ 1048576 ∧ x.2.2.length ≤ 4194304 ∧ ∀ l ∈ x.2.2, l.length ≤ 17592186044000 := fun x hx => by
      unfold Ku.recA at hx
      split at hx
      · exact hk _ _ _ (by rw [Ku.ZL_length]; omega) x hx
      · split at hx
        · refine hk _ _ _ ?_ x hx
          rw [List.length_append, Ku.nf_length]
          omega
        · cases hx
    cases hx : Ku.recA (Ku.rows es hv es.length) es n.toNat with
    | none => exact ⟨by simp, by simp, fun l hl => by simp at hl⟩
    | some x => exact hr x hx
  · rw [dif_neg hv]
    exact ⟨by simp, by simp, fun l hl => by simp at hl⟩
theorem drecognise_is (n : Int) (ao : Option Addr) (cap : Nat) (es : List (Int × Int)) (w : World) (he : EdgesAt w ao es) (hl : es.length ≤ 4611686018427387904) :
    Calls Try.prog 10 #[.agg #[.int .i64 n, .slice ao es.length cap]] w (Ku.KrP (Ku.kr n es) w) := (krecognise_any n ao cap es w he hl).mono fun _ _ h => Ku.kr_of' h

end Go.Proofs.Ytdhaaodalchpkab
