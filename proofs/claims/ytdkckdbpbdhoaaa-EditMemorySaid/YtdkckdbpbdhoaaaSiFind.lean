/-
  An edge's number: the library's binary search, and Find.
-/
import Derived.Test.YtdkckdbpbdhoaaaSiValid
import Derived.Deep.RegionHeld3
namespace Go.Proofs.Ytdkckdbpbdhoaaa
open Go.RowKit Go.Sort

/-- Where e stands among the edges, or would stand. -/
def Si.Stands (es : List (Int × Int)) (e : Int × Int) (i : Nat) : Prop :=
  i ≤ es.length ∧ (∀ (j : Nat) (p : Int × Int), j < i → es[j]? = some p → Si.lt p e) ∧ ∀ (j : Nat) (p : Int × Int), i ≤ j → es[j]? = some p → ¬ Si.lt p e

theorem below_of_grow {w w' : World} (h : ∃ (q : Nat) (os' : Array Obj), w' = grow (w.drewN q) os') : Below w.heap.size w w' := by
  obtain ⟨q, os', rfl⟩ := h
  exact grow_below w q os'

set_option maxRecDepth 100000 in
set_option maxHeartbeats 4000000 in
theorem bsearch_any (ao : Option Addr) (cap : Nat) (es : List (Int × Int)) (t : Int × Int) (w : World) (he : EdgesAt w ao es) (hl : es.length ≤ 4194304) (hm : ∀ (j i : Nat) (p q : Int × Int), i < j → es[i]? = some p → es[j]? = some q → Si.lt p q) :
    Calls Try.prog 52 #[.slice ao es.length cap, edgeVal t, .func (.func 51) #[] #[]] w fun e w' => (∃ i : Nat, Si.Stands es t i ∧ e = .returned (.tuple #[.int .i64 i, .bool (decide (es[i]? = some t))])) ∧ Below w.heap.size w w' := by
  have HE := Nu.hid he
  have HM := Nu.hid hm
  clear he hm
  unfold edgeVal
  go_enter Try.func52, Try.ntmps52
  go_wp2
  go_loopw [9, 10] (fun s9 s10 wr => ∃ lo hi : Nat, s9 = .int .i64 lo ∧ s10 = .int .i64 hi ∧ lo ≤ hi ∧ hi ≤ es.length ∧ (∀ (j : Nat) (p : Int × Int), j < lo → es[j]? = some p → Si.lt p t) ∧ (∀ (j : Nat) (p : Int × Int), hi ≤ j → es[j]? = some p → ¬ Si.lt p t) ∧ wr.heap[w.heap.size]? = some (.cells #[.int .i64 t.1, .int .i64 t.2] 26 (0, 0)) ∧ Below w.heap.size w wr) (fun s9 s10 _ => (intOf s10).toNat - (intOf s9).toNat)
  case atStart =>
    refine ⟨0, es.length, rfl, rfl, Nat.zero_le _, Nat.le_refl _, fun j p h => by omega, fun j p h hp => ?_, heap_alloc_new w _, (Below.refl _ _).alloc (Nat.le_refl _) _⟩
    rw [List.getElem?_eq_none h] at hp
    cases hp
  case round =>
    obtain ⟨lo, hi, rfl, rfl, hlh, hin, hlow, hhigh, htb, hb⟩ := hrel
    have hszt := lt_of_block htb
    obtain ⟨t0, t1, -⟩ := pair_cells htb
    have HLOW := Nu.hid hlow
    have HHIGH := Nu.hid hhigh
    have HTB := Nu.hid htb
    have HB := Nu.hid hb
    clear hlow hhigh htb
    by_cases hlt : lo < hi
    · have hlti : (lo : Int) < (hi : Int) := by omega
      obtain ⟨k, hk⟩ : ∃ k : Nat, ((lo : Int) + (hi : Int)) / 2 = (k : Int) := ⟨(lo + hi) / 2, by omega⟩
      have hk0 : (0 : Int) ≤ (k : Int) := by omega
      have hk1 : (k : Int) < (es.length : Int) := by omega
      obtain ⟨p, hp⟩ : ∃ p, es[k]? = some p := ⟨_, List.getElem?_eq_getElem (by omega)⟩
      obtain ⟨b, o, rfl, c0, c1⟩ := (HE.out.later hb) k p hp
      have hbl : b < wr.heap.size := block_lt_of_cell c0
      have hca := fun W => compare_any p t W
      unfold edgeVal at hca
      have HCA := Nu.hid hca
      have HP := Nu.hid hp
      clear hca hp hb
      by_cases q4 : Si.lt p t
      · have hcf := Si.cf_neg.2 q4
        generalize Si.cf p t = r at HCA hcf
        go_wp2
        go_region_held3 (fun w' => w'.cell? ⟨b, o + k * 2, none⟩ = some (.int .i64 p.1) ∧ w'.cell? ⟨b, o + k * 2 + 1, none⟩ = some (.int .i64 p.2) ∧ w'.cell? ⟨w.heap.size, 0, none⟩ = some (.int .i64 t.1) ∧ w'.cell? ⟨w.heap.size, 1, none⟩ = some (.int .i64 t.2))
          (first
            | go_keep
            | (go_split_ands
               refine ⟨?_, ?_, ?_, ?_⟩ <;> (refine (hb2.cell (p := ⟨_, _, none⟩) ?_).trans ?_ <;> first | assumption | (simp; omega))))
          ((go_at_call 51; refine (HCA.out _).mono ?_; rintro e w2 ⟨rfl, hgr⟩; have hb2 : Below wr.heap.size wr w2 := (Below.refl wr.heap.size wr).drew.trans (below_of_grow hgr)))
        have HB2 := Nu.hid (HB.out.trans (hb2.mono HB.out.size))
        have HTB2 := Nu.hid ((hb2.block _ hszt).trans HTB.out)
        clear hb2
        go_wp2
        go_roundw
        case rel =>
          refine ⟨k + 1, hi, by go_num, rfl, by omega, hin, fun j q hj hq => ?_, HHIGH.out, HTB2.out, HB2.out⟩
          by_cases hjk : j = k
          · subst hjk; rw [HP.out] at hq; cases hq; exact q4
          · exact Si.lt_trans (HM.out k j q p (by omega) hq HP.out) q4
        case measure => simp [intOf]; omega
      · have hcf : ¬ (Si.cf p t < 0) := fun h => q4 (Si.cf_neg.1 h)
        generalize Si.cf p t = r at HCA hcf
        go_wp2
        go_region_held3 (fun w' => w'.cell? ⟨b, o + k * 2, none⟩ = some (.int .i64 p.1) ∧ w'.cell? ⟨b, o + k * 2 + 1, none⟩ = some (.int .i64 p.2) ∧ w'.cell? ⟨w.heap.size, 0, none⟩ = some (.int .i64 t.1) ∧ w'.cell? ⟨w.heap.size, 1, none⟩ = some (.int .i64 t.2))
          (first
            | go_keep
            | (go_split_ands
               refine ⟨?_, ?_, ?_, ?_⟩ <;> (refine (hb2.cell (p := ⟨_, _, none⟩) ?_).trans ?_ <;> first | assumption | (simp; omega))))
          ((go_at_call 51; refine (HCA.out _).mono ?_; rintro e w2 ⟨rfl, hgr⟩; have hb2 : Below wr.heap.size wr w2 := (Below.refl wr.heap.size wr).drew.trans (below_of_grow hgr)))
        have HB2 := Nu.hid (HB.out.trans (hb2.mono HB.out.size))
        have HTB2 := Nu.hid ((hb2.block _ hszt).trans HTB.out)
        clear hb2
        go_wp2
        go_roundw
        case rel =>
          refine ⟨lo, k, rfl, rfl, by omega, by omega, HLOW.out, fun j q hj hq hlt' => ?_, HTB2.out, HB2.out⟩
          by_cases hjk : j = k
          · subst hjk; rw [HP.out] at hq; cases hq; exact q4 hlt'
          · exact q4 (Si.lt_trans (HM.out j k p q (by omega) HP.out hq) hlt')
        case measure => simp [intOf]; omega
    · obtain rfl : hi = lo := by omega
      have HST : Hid (Si.Stands es t hi) := ⟨hin, HLOW.out, HHIGH.out⟩
      by_cases hn : hi < es.length
      · have hni : (hi : Int) < (es.length : Int) := by omega
        have hk0 : (0 : Int) ≤ (hi : Int) := by omega
        obtain ⟨p, hp⟩ : ∃ p, es[hi]? = some p := ⟨_, List.getElem?_eq_getElem (by omega)⟩
        obtain ⟨b, o, rfl, c0, c1⟩ := (HE.out.later hb) hi p hp
        have hbl : b < wr.heap.size := block_lt_of_cell c0
        have hca := fun W => compare_any p t W
        unfold edgeVal at hca
        have HCA := Nu.hid hca
        have HP := Nu.hid hp
        clear hca hp hb
        have hcz : decide (es[hi]? = some t) = (Si.cf p t == 0) := by
          rw [HP.out]
          by_cases e : p = t
          · simp [e, Si.cf_zero.2 rfl]
          · have : Si.cf p t ≠ 0 := fun h => e (Si.cf_zero.1 h)
            simp [e, this]
        have HCZ := Nu.hid hcz
        clear hcz
        generalize Si.cf p t = r at HCA HCZ
        go_wp2
        go_region_held3 (fun w' => w'.cell? ⟨b, o + hi * 2, none⟩ = some (.int .i64 p.1) ∧ w'.cell? ⟨b, o + hi * 2 + 1, none⟩ = some (.int .i64 p.2) ∧ w'.cell? ⟨w.heap.size, 0, none⟩ = some (.int .i64 t.1) ∧ w'.cell? ⟨w.heap.size, 1, none⟩ = some (.int .i64 t.2))
          (first
            | go_keep
            | (go_split_ands
               refine ⟨?_, ?_, ?_, ?_⟩ <;> (refine (hb2.cell (p := ⟨_, _, none⟩) ?_).trans ?_ <;> first | assumption | (simp; omega))))
          ((go_at_call 51; refine (HCA.out _).mono ?_; rintro e w2 ⟨rfl, hgr⟩; have hb2 : Below wr.heap.size wr w2 := (Below.refl wr.heap.size wr).drew.trans (below_of_grow hgr)))
        go_wp2
        go_ret2
        refine ⟨⟨hi, HST.out, ?_⟩, HB.out.trans (hb2.mono HB.out.size)⟩
        rw [HCZ.out]
        rfl
      · have hni : ¬ ((hi : Int) < (es.length : Int)) := by omega
        have hno : decide (es[hi]? = some t) = false := by rw [List.getElem?_eq_none (by omega)]; rfl
        have HNO := Nu.hid hno
        clear hno
        go_wp2
        go_region
        go_wp2
        go_ret2
        refine ⟨⟨hi, HST.out, ?_⟩, HB.out.drew⟩
        rw [HNO.out]
        rfl

set_option maxRecDepth 100000 in
set_option maxHeartbeats 4000000 in
theorem find_any (n : Int) (ao : Option Addr) (cap : Nat) (es : List (Int × Int)) (t : Int × Int) (w : World) (he : EdgesAt w ao es) (hl : es.length ≤ 4611686018427387904) :
    Calls Try.prog 40 #[graphVal n ao es.length cap, edgeVal t] w fun e w' => (∃ r : Int, Si.IsFind n es t r ∧ e = .returned (.int .i64 r)) ∧ Below w.heap.size w w' := by
  have HE := Nu.hid he
  have hva := fun W (hb : Below w.heap.size w W) => valid_any n ao cap es W (he.later hb) hl
  unfold graphVal at hva ⊢
  have HVA := Nu.hid hva
  clear he hva
  have hbw0 : Below w.heap.size w ((w.alloc (.cells #[.int .i64 n, .slice ao es.length cap] 24)).alloc (.cells #[.int .i64 t.1, .int .i64 t.2] 26)) := ((Below.refl _ _).alloc (Nat.le_refl _) _).alloc (by simp) _
  have HBW0 := Nu.hid hbw0
  clear hbw0
  cases hv : Si.valid n es with
  | false =>
    rw [hv] at HVA
    have hnv : ¬ Si.Val n es := fun h => by rw [Si.valid_iff.2 h] at hv; cases hv
    unfold edgeVal
    go_enter Try.func40, Try.ntmps40
    go_wp2_with (go_at_call 35; refine (HVA.out _ HBW0.out).mono ?_; rintro e w' ⟨rfl, hb⟩; refine Hid.out ?_)
    refine Nu.hid ?_
    go_wp2
    go_ret
    exact ⟨⟨-1, .inr ⟨rfl, fun h => hnv h.1⟩, rfl⟩, HBW0.out.trans (hb.mono HBW0.out.size)⟩
  | true =>
    rw [hv] at HVA
    have hval := Si.valid_iff.1 hv
    have hfew := hval.few
    have HVAL := Nu.hid hval
    clear hval
    unfold edgeVal
    go_enter Try.func40, Try.ntmps40
    go_wp2_with (go_at_call 35; refine (HVA.out _ HBW0.out).mono ?_; rintro e w' ⟨rfl, hb⟩; refine Hid.out ?_)
    refine Nu.hid ?_
    have hbw : Below w.heap.size w w' := HBW0.out.trans (hb.mono HBW0.out.size)
    have hG : w'.heap[w.heap.size]? = some (.cells #[.int .i64 n, .slice ao es.length cap] 24 (0, 0)) := by
      refine (hb.block _ (by simp; omega)).trans ?_
      rw [Below.heap_alloc _ _ _ (by simp)]
      exact heap_alloc_new w _
    have hT : w'.heap[w.heap.size + 1]? = some (.cells #[.int .i64 t.1, .int .i64 t.2] 26 (0, 0)) := by
      refine (hb.block _ (by simp)).trans ?_
      have := heap_alloc_new (w.alloc (.cells #[.int .i64 n, .slice ao es.length cap] 24)) (.cells #[.int .i64 t.1, .int .i64 t.2] 26)
      simpa using this
    obtain ⟨g0, g1, -⟩ := pair_cells hG
    obtain ⟨t0, t1, -⟩ := pair_cells hT
    have HBW := Nu.hid hbw
    have hbs := fun W (hb' : Below w.heap.size w W) => bsearch_any ao cap es t W (HE.out.later hb') hfew HVAL.out.mono
    unfold edgeVal at hbs
    have HBS := Nu.hid hbs
    clear hb hbw hG hT hbs
    go_wp2_with (go_at_call 52; refine (HBS.out _ HBW.out).mono ?_; rintro e w2 ⟨⟨i, hst, rfl⟩, hb2⟩; refine Hid.out ?_)
    refine Nu.hid ?_
    have HB2 := Nu.hid (HBW.out.trans (hb2.mono HBW.out.size))
    clear hb2
    by_cases hf : es[i]? = some t
    · have hd : decide (es[i]? = some t) = true := by simp [hf]
      rw [hd]
      have HF := Nu.hid hf
      clear hf hd
      go_wp2
      go_ret
      exact ⟨⟨i, .inl ⟨i, HVAL.out, HF.out, rfl⟩, rfl⟩, HB2.out⟩
    · have hd : decide (es[i]? = some t) = false := by simp [hf]
      rw [hd]
      have HF := Nu.hid hf
      have HST := Nu.hid hst
      clear hf hd hst
      go_wp2
      go_ret
      refine ⟨⟨-1, .inr ⟨rfl, fun h => ?_⟩, rfl⟩, HB2.out⟩
      obtain ⟨k, hk⟩ := h.2
      rcases Nat.lt_trichotomy k i with a | a | a
      · exact Si.lt_irrefl t (HST.out.2.1 k t a hk)
      · subst a; exact HF.out hk
      · have hil : i < es.length := by
          rcases Nat.lt_or_ge k es.length with h' | h'
          · omega
          · rw [List.getElem?_eq_none h'] at hk; cases hk
        exact HST.out.2.2 i _ (Nat.le_refl _) (List.getElem?_eq_getElem hil) (HVAL.out.mono k i _ t a (List.getElem?_eq_getElem hil) hk)

end Go.Proofs.Ytdkckdbpbdhoaaa
