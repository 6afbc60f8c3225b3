/-
  The document's own Put: the edges with one more, in its place.
-/
import Derived.Test.YtdhaaodalchpkaaMgD
import Derived.Test.YtdhaaodalchpkaaMgI
import Derived.Test.YtdhaaodalchpkaaMgR
import Derived.Test.YtdhaaodalchpkaaMgA
import Derived.Test.YtdhaaodalchpkaaSiValid
import Derived.Deep.RegionHeld3
import Derived.Deep.QuietTactic
import Derived.BigQuiet
namespace Go.Proofs.Ytdhaaodalchpkaa
open Go.RowKit Go.Sort

def PutPost (a0 : Option Addr) (l : List (Int × Int)) (w : World) (e : Ending) (w' : World) : Prop :=
  ∃ ao cap, e = .returned (.slice ao l.length cap) ∧ EdgesAt w' ao l ∧ Below w.heap.size w w' ∧ (ao = a0 ∨ ∀ x, ao = some x → w.heap.size ≤ x.block)

theorem take_all {l : List (Int × Int)} {i k : Nat} {t : Int × Int} (hk : i ≤ k) (hkl : k ≤ l.length) : (l.take i ++ t :: (l.drop i).take (k - i)).length = k + 1 := by
  simp
  omega

theorem take_more {l : List (Int × Int)} {i k : Nat} {t p : Int × Int} (hk : i ≤ k) (hp : l[k]? = some p) : l.take i ++ t :: (l.drop i).take (k + 1 - i) = (l.take i ++ t :: (l.drop i).take (k - i)) ++ [p] := by
  have e : k + 1 - i = (k - i) + 1 := by omega
  have hkl : k < l.length := (List.getElem?_eq_some_iff.1 hp).1
  have hd : (l.drop i)[k - i]? = some p := by rw [List.getElem?_drop]; rw [← hp]; congr 1; omega
  rw [e, List.append_assoc, List.cons_append]
  congr 2
  have hlt : k - i < (l.drop i).length := (List.getElem?_eq_some_iff.1 hd).1
  rw [List.take_succ_eq_append_getElem hlt]
  rw [List.getElem?_eq_getElem hlt] at hd
  cases hd
  rfl

set_option maxRecDepth 100000 in
set_option maxHeartbeats 8000000 in
theorem put_any (ao : Option Addr) (cap : Nat) (l : List (Int × Int)) (t : Int × Int) (w : World) (he : EdgesAt w ao l) (hl : (l.length + 1) * 16 ≤ 140737488355328) :
    Calls Try.prog 38 #[.slice ao l.length cap, edgeVal t] w (PutPost ao (Si.put l t) w) := by
  obtain ⟨i0, hi, hz0, hz1, hz2⟩ := info_parts Try.infoEdge
  have HE := Nu.hid he
  clear he
  unfold edgeVal PutPost
  go_enter Try.func38, Try.ntmps38
  go_wp2
  go_loopw [5, 6] (fun v c wr => ∃ i : Nat, i ≤ l.length ∧ c = .int .i64 i ∧ (∀ (j : Nat) (x : Int × Int), j < i → l[j]? = some x → Si.lt x t) ∧ OwnE wr (w.heap.size + 1) v (l.take i) ∧ wr.heap[w.heap.size]? = some (.cells #[.int .i64 t.1, .int .i64 t.2] 57 (0, 0)) ∧ Below w.heap.size w wr) (fun _ c _ => l.length - (intOf c).toNat)
  case atStart => exact ⟨0, Nat.zero_le _, rfl, fun j x h => by omega, OwnE.nil _ _, heap_alloc_new w _, (Below.refl _ _).alloc (Nat.le_refl _) _⟩
  case round =>
    obtain ⟨i, hil, rfl, hlow, hrow, htb, hb⟩ := hrel
    have hszt := lt_of_block htb
    obtain ⟨t0, t1, -⟩ := pair_cells htb
    have hk0 : (0 : Int) ≤ (i : Int) := by omega
    have hti : (l.take i).length = i := by simp; omega
    have HLOW := Nu.hid hlow
    have HTB := Nu.hid htb
    have HB := Nu.hid hb
    have HROW := Nu.hid hrow
    have HTI := Nu.hid hti
    clear hlow htb hrow hti
    by_cases hlt : i < l.length
    · have hlti : (i : Int) < (l.length : Int) := by omega
      obtain ⟨p, hp⟩ : ∃ p, l[i]? = some p := ⟨_, List.getElem?_eq_getElem hlt⟩
      obtain ⟨b, o, rfl, c0, c1⟩ := (HE.out.later hb) i p hp
      have hbl : b < wr.heap.size := block_lt_of_cell c0
      have hca := fun W => less_any p t W
      unfold edgeVal at hca
      have HP := Nu.hid hp
      clear hp hb
      by_cases q4 : Si.lt p t
      · have hd : decide (Si.lt p t) = true := by simp [q4]
        rw [hd] at hca
        have HCA := Nu.hid hca
        clear hca hd
        go_wp2
        go_region_held3 (fun w' => w'.cell? ⟨b, o + i * 2, none⟩ = some (.int .i64 p.1) ∧ w'.cell? ⟨b, o + i * 2 + 1, none⟩ = some (.int .i64 p.2) ∧ w'.cell? ⟨w.heap.size, 0, none⟩ = some (.int .i64 t.1) ∧ w'.cell? ⟨w.heap.size, 1, none⟩ = some (.int .i64 t.2))
          (first
            | go_keep
            | (go_split_ands
               refine ⟨?_, ?_, ?_, ?_⟩ <;> (refine (hb2.cell (p := ⟨_, _, none⟩) ?_).trans ?_ <;> first | assumption | (simp; omega))))
          ((go_at_call 37; refine (HCA.out _).mono ?_; rintro e w2 ⟨rfl, hgr⟩; have hb2 : Below wr.heap.size wr w2 := (Below.refl wr.heap.size wr).drew.trans (grown_of_grow hgr)))
        have HROW2 := Nu.hid (HROW.out.below hb2 (Nat.le_refl _))
        have HTB2 := Nu.hid ((hb2.block _ hszt).trans HTB.out)
        have hs2 : wr.heap.size ≤ w2.heap.size := hb2.size
        have hszt2 : w.heap.size < w2.heap.size := by omega
        have HB2 := Nu.hid (HB.out.trans (hb2.mono HB.out.size))
        have hs02 : w.heap.size ≤ w2.heap.size := HB2.out.size
        obtain ⟨x0, x1, -⟩ := pair_cells HTB2.out
        have d0 := (hb2.cell (p := ⟨b, o + i * 2, none⟩) hbl).trans c0
        have d1 := (hb2.cell (p := ⟨b, o + i * 2 + 1, none⟩) hbl).trans c1
        have hbl2 : b < w2.heap.size := by omega
        clear hb2 hgr c0 c1 t0 t1
        go_wp2_with (at_builtin; refine wpList_append_own _ rfl _ _ 22 rfl (w.heap.size + 1) 57 i0 (.agg #[.int .i64 0, .int .i64 0]) 2 16 Try.underlying22 hi hz0 hz1 hz2 rfl (by decide) _ _ _ rfl (World.ownsRow.alloc HROW2.out _) ⟨w2.heap.size, 0, none⟩ 1 1 [.int .i64 p.1, .int .i64 p.2] rfl rfl (new_two_e _ _ rfl _ _ _) (by simp [Value.oneCell']) (by rw [HTI.out]; unfold maxLen; omega) (by rw [HTI.out]; omega) (by simp; omega) ?_; refine Hid.out ?_)
        refine Nu.hid ?_
        intro v' w3 hrow3 hg3 _
        have HROW3 : Hid (OwnE w3 (w.heap.size + 1) v' (l.take (i + 1))) := by
          unfold OwnE
          have e : (l.take i ++ [p]).length = i + 1 := by rw [List.length_append, HTI.out]; rfl
          rw [Si.take_snoc HP.out, flatE_snoc, e]
          exact hrow3
        have HTB3 := Nu.hid ((hg3.block _ (by simp; omega) (fun h => HROW2.out.far (Nat.lt_succ_self _) h.symm)).trans ((Below.heap_alloc _ _ _ hszt2).trans HTB2.out))
        have HB3 := Nu.hid ((HB2.out.alloc hs02 _).grown hg3 (by simp; omega) (fun j hj => by have := (World.ownsRow.lt HROW2.out j hj).1; omega))
        clear hrow3 hg3
        go_wp2
        go_roundw
        case rel =>
          refine ⟨i + 1, by omega, by go_num, fun j x hj hx => ?_, HROW3.out, HTB3.out, HB3.out⟩
          by_cases hji : j = i
          · subst hji; rw [HP.out] at hx; cases hx; exact q4
          · exact HLOW.out j x (by omega) hx
        case measure => simp [intOf]; omega
      · have hd : decide (Si.lt p t) = false := by simp [q4]
        rw [hd] at hca
        have HCA := Nu.hid hca
        have hput := Si.put_at l t i hil HLOW.out (fun x hx => by rw [HP.out] at hx; cases hx; exact q4)
        clear hca hd
        by_cases hpt : p = t
        · rw [if_pos (by rw [HP.out, hpt])] at hput
          have HPUT := Nu.hid hput
          clear hput
          have hbe : (p.1 == t.1 && p.2 == t.2) = true := by rw [hpt]; simp
          have HPT := Nu.hid hpt
          clear hpt
          go_wp2
          go_region_held3 (fun w' => w'.cell? ⟨b, o + i * 2, none⟩ = some (.int .i64 p.1) ∧ w'.cell? ⟨b, o + i * 2 + 1, none⟩ = some (.int .i64 p.2) ∧ w'.cell? ⟨w.heap.size, 0, none⟩ = some (.int .i64 t.1) ∧ w'.cell? ⟨w.heap.size, 1, none⟩ = some (.int .i64 t.2))
            (first
              | go_keep
              | (go_split_ands
                 refine ⟨?_, ?_, ?_, ?_⟩ <;> (refine (hb2.cell (p := ⟨_, _, none⟩) ?_).trans ?_ <;> first | assumption | (simp; omega))))
            ((go_at_call 37; refine (HCA.out _).mono ?_; rintro e w2 ⟨rfl, hgr⟩; have hb2 : Below wr.heap.size wr w2 := (Below.refl wr.heap.size wr).drew.trans (grown_of_grow hgr)))
          have HROW2 := Nu.hid (HROW.out.below hb2 (Nat.le_refl _))
          have HTB2 := Nu.hid ((hb2.block _ hszt).trans HTB.out)
          have hs2 : wr.heap.size ≤ w2.heap.size := hb2.size
          have hszt2 : w.heap.size < w2.heap.size := by omega
          have HB2 := Nu.hid (HB.out.trans (hb2.mono HB.out.size))
          have hs02 : w.heap.size ≤ w2.heap.size := HB2.out.size
          obtain ⟨x0, x1, -⟩ := pair_cells HTB2.out
          have d0 := (hb2.cell (p := ⟨b, o + i * 2, none⟩) hbl).trans c0
          have d1 := (hb2.cell (p := ⟨b, o + i * 2 + 1, none⟩) hbl).trans c1
          have hbl2 : b < w2.heap.size := by omega
          clear hb2 hgr c0 c1 t0 t1
          go_wp2_with fail
          have eqP := eqEdge
          go_quiet (fail)
          clear eqP
          go_wp2
          go_ret
          try rw [HPUT.out]
          exact ⟨_, _, rfl, HE.out.later (below_drewN HB2.out _), below_drewN HB2.out _, .inl rfl⟩
        · rw [if_neg (by rw [HP.out]; intro h; cases h; exact hpt rfl)] at hput
          have HPUT := Nu.hid hput
          clear hput
          have hbe : (p.1 == t.1 && p.2 == t.2) = false := by
            by_cases h1 : p.1 = t.1
            · have : p.2 ≠ t.2 := fun h2 => hpt (Prod.ext h1 h2)
              simp [this]
            · simp [h1]
          go_wp2
          go_region_held3 (fun w' => w'.cell? ⟨b, o + i * 2, none⟩ = some (.int .i64 p.1) ∧ w'.cell? ⟨b, o + i * 2 + 1, none⟩ = some (.int .i64 p.2) ∧ w'.cell? ⟨w.heap.size, 0, none⟩ = some (.int .i64 t.1) ∧ w'.cell? ⟨w.heap.size, 1, none⟩ = some (.int .i64 t.2))
            (first
              | go_keep
              | (go_split_ands
                 refine ⟨?_, ?_, ?_, ?_⟩ <;> (refine (hb2.cell (p := ⟨_, _, none⟩) ?_).trans ?_ <;> first | assumption | (simp; omega))))
            ((go_at_call 37; refine (HCA.out _).mono ?_; rintro e w2 ⟨rfl, hgr⟩; have hb2 : Below wr.heap.size wr w2 := (Below.refl wr.heap.size wr).drew.trans (grown_of_grow hgr)))
          have HROW2 := Nu.hid (HROW.out.below hb2 (Nat.le_refl _))
          have HTB2 := Nu.hid ((hb2.block _ hszt).trans HTB.out)
          have hs2 : wr.heap.size ≤ w2.heap.size := hb2.size
          have hszt2 : w.heap.size < w2.heap.size := by omega
          have HB2 := Nu.hid (HB.out.trans (hb2.mono HB.out.size))
          have hs02 : w.heap.size ≤ w2.heap.size := HB2.out.size
          obtain ⟨x0, x1, -⟩ := pair_cells HTB2.out
          have d0 := (hb2.cell (p := ⟨b, o + i * 2, none⟩) hbl).trans c0
          have d1 := (hb2.cell (p := ⟨b, o + i * 2 + 1, none⟩) hbl).trans c1
          have hbl2 : b < w2.heap.size := by omega
          clear hb2 hgr c0 c1 t0 t1
          go_wp2_with fail
          have eqP := eqEdge
          go_quiet (fail)
          clear eqP
          have HROW2 := Nu.hid (HROW2.out.below (below_drewN (Below.refl w2.heap.size w2) nq) (Nat.le_refl _))
          have HTB2 : Hid ((w2.drewN nq).heap[w.heap.size]? = some (.cells #[.int .i64 t.1, .int .i64 t.2] 57 (0, 0))) := HTB2.out
          have HB2 := Nu.hid (below_drewN HB2.out nq)
          have hs02 : w.heap.size ≤ (w2.drewN nq).heap.size := hs02
          have hszt2 : w.heap.size < (w2.drewN nq).heap.size := hszt2
          generalize w2.drewN nq = w3 at HROW2 HTB2 HB2 hs02 hszt2 ⊢
          obtain ⟨x0, x1, -⟩ := pair_cells HTB2.out
          have hw3 := HB2.out
          have HB2 := Nu.hid hw3
          clear hw3
          go_wp2_with (at_builtin; refine wpList_append_own _ rfl _ _ 22 rfl (w.heap.size + 1) 57 i0 (.agg #[.int .i64 0, .int .i64 0]) 2 16 Try.underlying22 hi hz0 hz1 hz2 rfl (by decide) _ _ _ rfl (World.ownsRow.alloc HROW2.out _) ⟨w3.heap.size, 0, none⟩ 1 1 [.int .i64 t.1, .int .i64 t.2] rfl rfl (new_two_e _ _ rfl _ _ _) (by simp [Value.oneCell']) (by rw [HTI.out]; unfold maxLen; omega) (by rw [HTI.out]; omega) (by simp; omega) ?_; refine Hid.out ?_)
          refine Nu.hid ?_
          intro v' w4 hrow4 hg4 _
          have HROW4 : Hid (OwnE w4 (w.heap.size + 1) v' (l.take i ++ [t])) := by
            unfold OwnE
            have e : (l.take i ++ [t]).length = i + 1 := by rw [List.length_append, HTI.out]; rfl
            rw [flatE_snoc, e]
            exact hrow4
          have HB4 := Nu.hid ((HB2.out.alloc hs02 _).grown hg4 (by simp; omega) (fun j hj => by have := (World.ownsRow.lt HROW2.out j hj).1; omega))
          clear hrow4 hg4 x0 x1
          go_wp2
          go_loopw [5, 6] (fun v c wr => ∃ (k : Nat) (L : List (Int × Int)), i ≤ k ∧ k ≤ l.length ∧ c = .int .i64 k ∧ L = l.take i ++ t :: (l.drop i).take (k - i) ∧ OwnE wr (w.heap.size + 1) v L ∧ Below w.heap.size w wr) (fun _ c _ => l.length - (intOf c).toNat)
          case atStart => exact ⟨i, _, Nat.le_refl _, hil, rfl, by simp, HROW4.out, HB4.out⟩
          case round =>
            obtain ⟨k, L, hik, hkl, rfl, hL, hrow, hb⟩ := hrel
            have hLl : L.length = k + 1 := by rw [hL]; exact take_all hik hkl
            have HL := Nu.hid hL
            have HROW := Nu.hid hrow
            have HB5 := Nu.hid hb
            have HLL := Nu.hid hLl
            have hs5 : w.heap.size ≤ wr.heap.size := hb.size
            clear hL hrow hLl
            by_cases hlk : k < l.length
            · have hlki : (k : Int) < (l.length : Int) := by omega
              have hkk0 : (0 : Int) ≤ (k : Int) := by omega
              obtain ⟨p', hp'⟩ : ∃ p', l[k]? = some p' := ⟨_, List.getElem?_eq_getElem hlk⟩
              obtain ⟨b', o', hao, y0, y1⟩ := (HE.out.later hb) k p' hp'
              cases hao
              have hbl' := block_lt_of_cell y0
              dsimp only at hbl'
              have HSN := Nu.hid (take_more (t := t) hik hp')
              clear hb hp'
              go_wp2_with (at_builtin; refine wpList_append_own _ rfl _ _ 22 rfl (w.heap.size + 1) 57 i0 (.agg #[.int .i64 0, .int .i64 0]) 2 16 Try.underlying22 hi hz0 hz1 hz2 rfl (by decide) _ _ _ rfl (World.ownsRow.alloc HROW.out _) ⟨wr.heap.size, 0, none⟩ 1 1 [.int .i64 p'.1, .int .i64 p'.2] rfl rfl (new_two_e _ _ rfl _ _ _) (by simp [Value.oneCell']) (by rw [HLL.out]; unfold maxLen; omega) (by rw [HLL.out]; omega) (by simp; omega) ?_; refine Hid.out ?_)
              refine Nu.hid ?_
              intro v6 w6 hrow6 hg6 _
              have HROW6 : Hid (OwnE w6 (w.heap.size + 1) v6 (L ++ [p'])) := by
                unfold OwnE
                rw [flatE_snoc, List.length_append]
                exact hrow6
              have HB6 := Nu.hid ((HB5.out.alloc hs5 _).grown hg6 (by simp; omega) (fun j hj => by have := (World.ownsRow.lt HROW.out j hj).1; omega))
              clear hrow6 hg6
              go_wp2
              go_roundw
              case rel => exact ⟨k + 1, _, by omega, by omega, by go_num, by rw [HSN.out, HL.out], HROW6.out, HB6.out⟩
              case measure => simp [intOf]; omega
            · have hdk : ¬ ((k : Int) < (l.length : Int)) := by omega
              have hkl' : k = l.length := by omega
              have hLe : L = l.take i ++ t :: l.drop i := by
                rw [HL.out, hkl']
                congr 2
                exact List.take_of_length_le (by simp)
              obtain ⟨ao', cap', rfl, _, _, hea, hnw⟩ := HROW.out.form
              have HLE := Nu.hid hLe
              clear hLe
              have HEA := Nu.hid hea
              have HNW : Hid (∀ x, ao' = some x → w.heap.size ≤ x.block) := fun x hx => by have := (hnw x hx).1; omega
              clear hea hb hnw
              go_wp2
              go_ret
              try rw [HPUT.out]
              rw [← HLE.out]
              exact ⟨ao', ⟨cap', rfl⟩, HEA.out, HB5.out, .inr HNW.out⟩
    · have hd : ¬ ((i : Int) < (l.length : Int)) := by omega
      have hno : l[i]? = none := List.getElem?_eq_none (by omega)
      have hput := Si.put_at l t i hil HLOW.out (fun x hx => by rw [hno] at hx; cases hx)
      rw [if_neg (by rw [hno]; simp)] at hput
      have HPUT := Nu.hid hput
      clear hput hno hb
      have eqP := eqEdge
      go_wp2_with fail
      go_quiet (fail)
      clear eqP
      have HROW2 := Nu.hid (HROW.out.below (below_drewN (Below.refl wr.heap.size wr) nq) (Nat.le_refl _))
      have HTB2 : Hid ((wr.drewN nq).heap[w.heap.size]? = some (.cells #[.int .i64 t.1, .int .i64 t.2] 57 (0, 0))) := HTB.out
      have HB2 := Nu.hid (below_drewN HB.out nq)
      have hs02 : w.heap.size ≤ (wr.drewN nq).heap.size := HB.out.size
      have hszt2 : w.heap.size < (wr.drewN nq).heap.size := hszt
      generalize wr.drewN nq = w3 at HROW2 HTB2 HB2 hs02 hszt2 ⊢
      obtain ⟨x0, x1, -⟩ := pair_cells HTB2.out
      have hw3 := HB2.out
      have HB2 := Nu.hid hw3
      clear hw3
      go_wp2_with (at_builtin; refine wpList_append_own _ rfl _ _ 22 rfl (w.heap.size + 1) 57 i0 (.agg #[.int .i64 0, .int .i64 0]) 2 16 Try.underlying22 hi hz0 hz1 hz2 rfl (by decide) _ _ _ rfl (World.ownsRow.alloc HROW2.out _) ⟨w3.heap.size, 0, none⟩ 1 1 [.int .i64 t.1, .int .i64 t.2] rfl rfl (new_two_e _ _ rfl _ _ _) (by simp [Value.oneCell']) (by rw [HTI.out]; unfold maxLen; omega) (by rw [HTI.out]; omega) (by simp; omega) ?_; refine Hid.out ?_)
      refine Nu.hid ?_
      intro v' w4 hrow4 hg4 _
      have HROW4 : Hid (OwnE w4 (w.heap.size + 1) v' (l.take i ++ [t])) := by
        unfold OwnE
        have e : (l.take i ++ [t]).length = i + 1 := by rw [List.length_append, HTI.out]; rfl
        rw [flatE_snoc, e]
        exact hrow4
      have HB4 := Nu.hid ((HB2.out.alloc hs02 _).grown hg4 (by simp; omega) (fun j hj => by have := (World.ownsRow.lt HROW2.out j hj).1; omega))
      clear hrow4 hg4 x0 x1
      go_wp2
      go_loopw [5, 6] (fun v c wr => ∃ (k : Nat) (L : List (Int × Int)), i ≤ k ∧ k ≤ l.length ∧ c = .int .i64 k ∧ L = l.take i ++ t :: (l.drop i).take (k - i) ∧ OwnE wr (w.heap.size + 1) v L ∧ Below w.heap.size w wr) (fun _ c _ => l.length - (intOf c).toNat)
      case atStart => exact ⟨i, _, Nat.le_refl _, hil, rfl, by simp, HROW4.out, HB4.out⟩
      case round =>
        obtain ⟨k, L, hik, hkl, rfl, hL, hrow, hb⟩ := hrel
        have hLl : L.length = k + 1 := by rw [hL]; exact take_all hik hkl
        have HL := Nu.hid hL
        have HROW := Nu.hid hrow
        have HB5 := Nu.hid hb
        have HLL := Nu.hid hLl
        have hs5 : w.heap.size ≤ wr.heap.size := hb.size
        clear hL hrow hLl
        by_cases hlk : k < l.length
        · exact absurd hlk (by omega)
        · have hdk : ¬ ((k : Int) < (l.length : Int)) := by omega
          have hkl' : k = l.length := by omega
          have hLe : L = l.take i ++ t :: l.drop i := by
            rw [HL.out, hkl']
            congr 2
            exact List.take_of_length_le (by simp)
          obtain ⟨ao', cap', rfl, _, _, hea, hnw⟩ := HROW.out.form
          have HLE := Nu.hid hLe
          clear hLe
          have HEA := Nu.hid hea
          have HNW : Hid (∀ x, ao' = some x → w.heap.size ≤ x.block) := fun x hx => by have := (hnw x hx).1; omega
          clear hea hb hnw
          go_wp2
          go_ret
          try rw [HPUT.out]
          rw [← HLE.out]
          exact ⟨ao', ⟨cap', rfl⟩, HEA.out, HB5.out, .inr HNW.out⟩

end Go.Proofs.Ytdhaaodalchpkaa
