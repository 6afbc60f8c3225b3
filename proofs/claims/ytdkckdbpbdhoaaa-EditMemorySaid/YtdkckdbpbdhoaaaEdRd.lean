/-
  The document's own Bare.
-/
import Derived.Test.YtdkckdbpbdhoaaaEdR9
import Derived.Test.YtdkckdbpbdhoaaaEdW9
import Derived.Test.YtdkckdbpbdhoaaaMgH
namespace Go.Proofs.Ytdkckdbpbdhoaaa
open Go.RowKit Go.Sort

namespace Ed
open Si
def t1 (m : Nat) (es : List E) : List Int := (List.range m).map fun v : Nat => if has es (v : Int) = true then (1 : Int) else 0
def tt (m : Nat) (es : List E) (k : Nat) : List Int := (List.range m).map fun v : Nat => if v < k then (if has es (v : Int) = true then ((bl es v).length : Int) else -1) else (if has es (v : Int) = true then (1 : Int) else 0)
theorem t1_length (m : Nat) (es : List E) : (t1 m es).length = m := by simp [t1]
theorem tt_length (m : Nat) (es : List E) (k : Nat) : (tt m es k).length = m := by simp [tt]
theorem t1_at {m : Nat} {es : List E} {v : Nat} (h : v < m) : (t1 m es)[v]? = some (if has es (v : Int) = true then (1 : Int) else 0) := by
  unfold t1
  rw [List.getElem?_map, List.getElem?_range h]
  rfl
theorem tt_at {m : Nat} {es : List E} {k v : Nat} (h : v < m) : (tt m es k)[v]? = some (if v < k then (if has es (v : Int) = true then ((bl es v).length : Int) else -1) else (if has es (v : Int) = true then (1 : Int) else 0)) := by
  unfold tt
  rw [List.getElem?_map, List.getElem?_range h]
  rfl
theorem tt_zero (m : Nat) (es : List E) : tt m es 0 = t1 m es := by simp [tt, t1]
theorem t1_nil (m : Nat) : t1 m [] = List.replicate m 0 := by
  refine List.ext_getElem? fun v => ?_
  by_cases h : v < m
  · rw [t1_at h, List.getElem?_replicate, if_pos h]
    simp [has]
  · rw [List.getElem?_eq_none (by rw [t1_length]; omega), List.getElem?_eq_none (by simp; omega)]
theorem has_snoc (es : List E) (p : E) (v : Int) : has (es ++ [p]) v = (has es v || (p.1 == v || p.2 == v)) := by simp [has]
theorem t1_snoc {m : Nat} {es : List E} {u v : Nat} (hu : u < m) (hv : v < m) : t1 m (es ++ [((u : Int), (v : Int))]) = ((t1 m es).set u 1).set v 1 := by
  refine List.ext_getElem? fun x => ?_
  by_cases h : x < m
  · rw [t1_at h, List.getElem?_set, List.getElem?_set, t1_at h, has_snoc]
    by_cases h1 : v = x
    · subst h1
      simp [t1_length, hv]
    · by_cases h2 : u = x
      · subst h2
        simp [h1, t1_length, hu]
      · have e1 : ((u : Int) == (x : Int)) = false := by simp; omega
        have e2 : ((v : Int) == (x : Int)) = false := by simp; omega
        simp [h1, h2, e1, e2]
  · rw [List.getElem?_eq_none (by rw [t1_length]; omega), List.getElem?_eq_none (by simp [t1_length]; omega)]
theorem tt_succ {m : Nat} {es : List E} {k : Nat} (hk : k < m) : tt m es (k + 1) = (tt m es k).set k (if has es (k : Int) = true then ((bl es k).length : Int) else -1) := by
  refine List.ext_getElem? fun x => ?_
  by_cases h : x < m
  · rw [tt_at h, List.getElem?_set]
    by_cases h1 : k = x
    · subst h1
      have e : k < (tt m es k).length := by rw [tt_length]; exact hk
      simp [e]
    · rw [if_neg h1, tt_at h]
      by_cases h2 : x < k
      · rw [if_pos h2, if_pos (by omega)]
      · rw [if_neg h2, if_neg (by omega)]
  · rw [List.getElem?_eq_none (by rw [tt_length]; omega), List.getElem?_eq_none (by rw [List.length_set, tt_length]; omega)]
theorem tt_all (m : Nat) (es : List E) : tt m es m = pl m (bl es m) := by
  refine List.ext_getElem? fun x => ?_
  by_cases h : x < m
  · rw [tt_at h, if_pos h, pl_bl h]
  · rw [List.getElem?_eq_none (by rw [tt_length]; omega), List.getElem?_eq_none (by rw [pl_length]; omega)]
end Ed

theorem cell_one14 {w : World} {g i b o : Nat} (h : b ≠ g) (x : Value) : (w.setCell ⟨g, i, none⟩ x).cell? ⟨b, o, none⟩ = w.cell? ⟨b, o, none⟩ := by
  simp [World.cell?, heap_setCell_other w ⟨g, i, none⟩ b x h]

set_option maxRecDepth 100000 in
set_option maxHeartbeats 8000000 in
theorem rbare_any (n : Int) (ao : Option Addr) (cap : Nat) (es : List (Int × Int)) (w : World) (he : EdgesAt w ao es) (hl : es.length ≤ 4611686018427387904) :
    Calls Try.prog 27 #[graphVal n ao es.length cap] w (BareP (Ed.bare n es) (Ed.bareL n es) w) := by
  have HE := Nu.hid he
  have hva := fun W (hb : Below w.heap.size w W) => rvalid_any n ao cap es W (he.later hb) hl
  have hB0 := Bx1.start (w := w) (n := n) (ao := ao) (cap := cap) (es := es)
  unfold graphVal at hva ⊢
  have HVA := Nu.hid hva
  have HB0 := Nu.hid hB0
  clear he hva hB0
  cases hv : Si.valid n es with
  | false =>
    have hr : Ed.bare n es = (0, [], 1) := by unfold Ed.bare; rw [if_pos hv]
    have hr2 : Ed.bareL n es = [] := by unfold Ed.bareL; rw [if_pos hv]
    rw [hr, hr2]
    rw [hv] at HVA
    clear hv hr hr2
    go_enter Try.func27, Try.ntmps27
    go_wp2_with (go_at_call 33; refine (HVA.out _ HB0.out.low).mono ?_; rintro e w1 ⟨rfl, hb⟩; refine Hid.out ?_)
    refine Nu.hid ?_
    have HB1 := Nu.hid (HB0.out.later hb)
    clear hb
    obtain ⟨g0, g1⟩ := HB1.out.cells
    have hs1 := HB1.out.size
    have hs0 : w.heap.size < w1.heap.size := by omega
    obtain ⟨r0, r1⟩ := HB1.out.rcells
    have f0 := HB1.out.free 0
    have f1 := HB1.out.free 1
    go_wp2
    obtain ⟨hb, s0, s1⟩ := HB1.out.store (.int .i64 0) (.slice none 0 0)
    refine bodyPost_ret (v := .tuple #[.agg #[.int .i64 0, .slice none 0 0], .slice none 0 0, .int .i64 1]) (by simp [results, Try.results27, go_sem, s0, s1]) rfl ?_
    exact ⟨_, _, rfl, OwnE.nil _ _, OwnZ.nil _ _, (fun b h => (by cases h)), hb⟩
  | true =>
    have hval := Si.valid_iff.1 hv
    have hfew := hval.few
    have hlo := hval.lo
    have hhi := hval.hi
    have HVAL := Nu.hid hval
    rw [hv] at HVA
    obtain ⟨m, rfl⟩ : ∃ m : Nat, n = (m : Int) := ⟨n.toNat, by omega⟩
    have hr : Ed.bare (m : Int) es = (((Ed.bl es m).length : Int), Ed.named (Ed.pl m (Ed.bl es m)) es, 0) := by unfold Ed.bare; rw [if_neg (by rw [hv]; simp), Int.toNat_natCast]
    have hr2 : Ed.bareL (m : Int) es = Ed.bl es m := by unfold Ed.bareL; rw [if_neg (by rw [hv]; simp), Int.toNat_natCast]
    rw [hr, hr2]
    have hm20 : m ≤ 1048576 := by omega
    obtain ⟨i0, hi, hz0, hz1, hz2⟩ := info_parts Try.infoNum
    clear hv hr hr2 hval hlo hhi hl
    go_enter Try.func27, Try.ntmps27
    go_wp2_with (go_at_call 33; refine (HVA.out _ HB0.out.low).mono ?_; rintro e w1 ⟨rfl, hb⟩; refine Hid.out ?_)
    refine Nu.hid ?_
    have HB1 := Nu.hid (HB0.out.later hb)
    clear hb
    obtain ⟨g0, g1⟩ := HB1.out.cells
    have hs1 := HB1.out.size
    have hs0 : w.heap.size < w1.heap.size := by omega
    obtain ⟨r0, r1⟩ := HB1.out.rcells
    have f0 := HB1.out.free 0
    have f1 := HB1.out.free 1
    go_wp2_with (at_make; refine wpList_make_full _ rfl _ _ 40 rfl w1.heap.size 3 i0 (.int .i64 0) 1 Try.underlying40 hi hz0 hz1 _ _ _ _ m rfl rfl rfl rfl (by rw [hz2]; omega) (by unfold maxLen; omega) (Nat.le_refl _) ?_; refine Hid.out ?_)
    refine Nu.hid ?_
    intro w3 hrow3 hg3
    have HIB : Hid (IntsBlk w3 w1.heap.size (Ed.t1 m [])) := by
      rw [Ed.t1_nil]
      refine ints_of_row (B := w1.heap.size) (n := m) ?_
      rw [← made_zeros]
      simpa using hrow3
    have hb3 : Below w1.heap.size w1 w3 := (Below.refl _ _).grown hg3 (Nat.le_refl _) (fun j hj => by cases hj)
    have HB3 := Nu.hid (HB1.out.later hb3)
    clear hrow3 hg3 hb3 g0 g1 r0 r1 f0 f1
    go_wp2
    go_loopw [6] (fun c wr => ∃ (k : Nat) (L : List Int), k ≤ es.length ∧ c = .int .i64 k ∧ L = Ed.t1 m (es.take k) ∧ IntsBlk wr w1.heap.size L ∧ Bx1 w (m : Int) ao cap es wr) (fun c _ => es.length - (intOf c).toNat)
    case atStart => exact ⟨0, _, Nat.zero_le _, rfl, rfl, HIB.out, HB3.out⟩
    case round =>
      obtain ⟨k, L, hk, rfl, hL, hrow, hbx⟩ := hrel
      have HROW := Nu.hid hrow
      have HBX := Nu.hid hbx
      have HL := Nu.hid hL
      have hs0 := hrow.lt
      have hsx := hbx.size
      have hsx0 : w.heap.size < wr.heap.size := by omega
      obtain ⟨g0, g1⟩ := hbx.cells
      have hll : L.length = m := by rw [hL, Ed.t1_length]
      by_cases hlt : k < es.length
      · have hlti : (k : Int) < (es.length : Int) := by omega
        have hk0 : (0 : Int) ≤ (k : Int) := by omega
        obtain ⟨p, hp⟩ : ∃ p, es[k]? = some p := ⟨_, List.getElem?_eq_getElem hlt⟩
        obtain ⟨b, o, rfl, c0, c1⟩ := (HE.out.later hbx.low) k p hp
        have hbl : b < wr.heap.size := block_lt_of_cell c0
        have hbw : b < w.heap.size := by
          obtain ⟨b', o', eb, hc, _⟩ := HE.out k p hp
          cases eb
          exact block_lt_of_cell hc
        have hok := HVAL.out.each k p hp
        unfold Si.ok at hok
        obtain ⟨p1, p2⟩ := p
        dsimp only at c0 c1 hok
        obtain ⟨u, rfl⟩ : ∃ u : Nat, p1 = (u : Int) := ⟨p1.toNat, by omega⟩
        obtain ⟨v, rfl⟩ : ∃ v : Nat, p2 = (v : Int) := ⟨p2.toNat, by omega⟩
        have HSN : Hid (Ed.t1 m (es.take (k + 1)) = (L.set u 1).set v 1) := by
          show _ = _
          rw [Si.take_snoc hp, Ed.t1_snoc (by omega) (by omega), HL.out]
        obtain ⟨x, hx⟩ : ∃ x, L[u]? = some x := ⟨_, List.getElem?_eq_getElem (by omega)⟩
        have hi1 := hrow.set u 1
        obtain ⟨y, hy⟩ : ∃ y, (L.set u 1)[v]? = some y := ⟨_, List.getElem?_eq_getElem (by rw [List.length_set]; omega)⟩
        have x0 := hrow.cell hx
        have xf := hrow.free u
        have y0 := hi1.cell hy
        have yf := hi1.free v
        have HA2 := Nu.hid (hi1.set v 1)
        have u0 : (0 : Int) ≤ (u : Int) := by omega
        have v0 : (0 : Int) ≤ (v : Int) := by omega
        have um : (u : Int) < (m : Int) := by omega
        have vm : (v : Int) < (m : Int) := by omega
        have hnb : b ≠ w1.heap.size := by omega
        have HBX2 : Hid (Bx1 w (m : Int) (some ⟨b, o, none⟩) cap es ((wr.setCell ⟨w1.heap.size, u, none⟩ (.int .i64 1)).setCell ⟨w1.heap.size, v, none⟩ (.int .i64 1))) :=
          ⟨(HBX.out.low.setCell (by simp; omega) _).setCell (by simp; omega) _, (heap_setCell_other _ ⟨w1.heap.size, v, none⟩ _ _ (by simp; omega)).trans ((heap_setCell_other _ ⟨w1.heap.size, u, none⟩ _ _ (by simp; omega)).trans HBX.out.box), (heap_setCell_other _ ⟨w1.heap.size, v, none⟩ _ _ (by simp; omega)).trans ((heap_setCell_other _ ⟨w1.heap.size, u, none⟩ _ _ (by simp; omega)).trans HBX.out.res)⟩
        have e0 : (wr.setCell ⟨w1.heap.size, u, none⟩ (.int .i64 1)).cell? ⟨w.heap.size, 1, none⟩ = some (.slice (some ⟨b, o, none⟩) es.length cap) := (cell_one14 (by omega) _).trans g1
        have e1 : (wr.setCell ⟨w1.heap.size, u, none⟩ (.int .i64 1)).cell? ⟨b, o + k * 2 + 1, none⟩ = some (.int .i64 (v : Int)) := (cell_one14 (by omega) _).trans c1
        clear hrow hi1 hbx hL hp hx hy hok
        go_wp2
        go_roundw
        case rel => exact ⟨k + 1, _, by omega, by go_num, HSN.out.symm, HA2.out, HBX2.out⟩
        case measure => simp [intOf]; omega
      · have hd : ¬ ((k : Int) < (es.length : Int)) := by omega
        have HT0 : Hid (IntsBlk wr w1.heap.size (Ed.tt m es 0)) := by
          rw [hL, List.take_of_length_le (by omega), ← Ed.tt_zero] at hrow
          exact hrow
        clear hrow hbx hL
        go_wp2
        go_loopw [7, 8] (fun v c wt => ∃ (k : Nat) (L : List Int) (T : List Int), k ≤ m ∧ c = .int .i64 k ∧ L = Ed.bl es k ∧ T = Ed.tt m es k ∧ OwnZ wt (w1.heap.size + 1) v L ∧ IntsBlk wt w1.heap.size T ∧ Bx1 w (m : Int) ao cap es wt) (fun _ c _ => m - (intOf c).toNat)
        case atStart => exact ⟨0, [], _, Nat.zero_le _, rfl, rfl, rfl, OwnZ.nil _ _, HT0.out, HBX.out⟩
        case round =>
          obtain ⟨j, L, T, hj, rfl, hL, hT, hrow, hib, hbx⟩ := hrel
          have HROW := Nu.hid hrow
          have HBX := Nu.hid hbx
          have HLi := Nu.hid hL
          have HT := Nu.hid hT
          have HIBR := Nu.hid hib
          have hs0 := hib.lt
          have hs01 : w1.heap.size + 1 ≤ wr.heap.size := hs0
          clear g0 g1
          obtain ⟨g0, g1⟩ := hbx.cells
          have hsx := hbx.size
          have hsx0 : w.heap.size < wr.heap.size := by omega
          have hll : L.length ≤ j := by rw [hL]; exact Ed.bl_length es j
          by_cases hlt : j < m
          · have hlti : (j : Int) < (m : Int) := by omega
            have hj0 : (0 : Int) ≤ (j : Int) := by omega
            have hTj : T[j]? = some (if Ed.has es (j : Int) = true then (1 : Int) else 0) := by rw [hT, Ed.tt_at hlt, if_neg (by omega)]
            have HTS := Nu.hid (Ed.tt_succ (es := es) hlt)
            have HLS := Nu.hid (Ed.bl_succ es j)
            have t0 := hib.cell hTj
            have tf := hib.free j
            by_cases hh : Ed.has es (j : Int) = true
            · rw [if_pos hh] at t0 HLS
              rw [if_pos hh] at HTS
              have HA2 := Nu.hid (hib.set j (L.length : Int))
              have HBX2 : Hid (Bx1 w (m : Int) ao cap es (wr.setCell ⟨w1.heap.size, j, none⟩ (.int .i64 (L.length : Int)))) := ⟨HBX.out.low.setCell (by simp; omega) _, (heap_setCell_other _ ⟨w1.heap.size, j, none⟩ _ _ (by simp; omega)).trans HBX.out.box, (heap_setCell_other _ ⟨w1.heap.size, j, none⟩ _ _ (by simp; omega)).trans HBX.out.res⟩
              have HROW2 : Hid (OwnZ (wr.setCell ⟨w1.heap.size, j, none⟩ (.int .i64 (L.length : Int))) (w1.heap.size + 1) u7 L) := hrow.same fun g hg _ => by
                have := (World.ownsRow.lt hrow g hg).1
                exact heap_setCell_other _ ⟨w1.heap.size, j, none⟩ g _ (by simp; omega)
              have h10 : ((1 : Int) == 0) = false := by simp
              obtain ⟨lo, lc, rfl, -, -⟩ := hrow.form
              obtain ⟨W4, hW4⟩ : ∃ W4, W4 = wr.setCell ⟨w1.heap.size, j, none⟩ (.int .i64 (L.length : Int)) := ⟨_, rfl⟩
              rw [← hW4] at HA2 HBX2 HROW2
              have HW4 := Nu.hid hW4
              have HSZ : Hid (W4.heap.size = wr.heap.size) := Nu.hid (by rw [hW4]; simp)
              have hs4 : w1.heap.size + 1 ≤ W4.heap.size := by rw [hW4]; simpa using hs01
              clear hrow hib hbx hL hT hTj hh hW4
              go_wp2_with (at_builtin; rw [← HW4.out]; refine wpList_push rfl _ _ rfl _ (w1.heap.size + 1) _ L (j : Int) HROW2.out hs4 (by omega) rfl (by rw [HSZ.out]; rfl) ?_; refine Hid.out ?_)
              refine Nu.hid ?_
              intro v' w5 hrow5 _ _ hb5
              have HROW5 := Nu.hid hrow5
              have HIB5 := Nu.hid (HA2.out.below hb5 (by omega))
              have HBX5 := Nu.hid (HBX2.out.below hb5 (by omega))
              clear hrow5 hb5
              go_wp2
              go_roundw
              case rel => exact ⟨j + 1, _, _, by omega, by go_num, by rw [HLS.out, HLi.out], by rw [HTS.out, HT.out, HLi.out], HROW5.out, HIB5.out, HBX5.out⟩
              case measure => simp [intOf]; omega
            · rw [if_neg hh] at t0 HLS
              rw [if_neg hh] at HTS
              have HA2 := Nu.hid (hib.set j (-1))
              have HBX2 : Hid (Bx1 w (m : Int) ao cap es (wr.setCell ⟨w1.heap.size, j, none⟩ (.int .i64 (-1)))) := ⟨HBX.out.low.setCell (by simp; omega) _, (heap_setCell_other _ ⟨w1.heap.size, j, none⟩ _ _ (by simp; omega)).trans HBX.out.box, (heap_setCell_other _ ⟨w1.heap.size, j, none⟩ _ _ (by simp; omega)).trans HBX.out.res⟩
              have HROW2 : Hid (OwnZ (wr.setCell ⟨w1.heap.size, j, none⟩ (.int .i64 (-1))) (w1.heap.size + 1) u7 L) := hrow.same fun g hg _ => by
                have := (World.ownsRow.lt hrow g hg).1
                exact heap_setCell_other _ ⟨w1.heap.size, j, none⟩ g _ (by simp; omega)
              clear hrow hib hbx hL hT hTj hh
              go_wp2
              go_roundw
              case rel => exact ⟨j + 1, L, _, by omega, by go_num, by rw [HLS.out, List.append_nil, HLi.out], by rw [HTS.out, HT.out], HROW2.out, HA2.out, HBX2.out⟩
              case measure => simp [intOf]; omega
          · have hd : ¬ ((j : Int) < (m : Int)) := by omega
            obtain rfl : j = m := by omega
            obtain ⟨lo, lc, rfl, hli, hlb⟩ := hrow.form
            have HLB := Nu.hid hlb
            have HON : Hid (Ed.Once (j : Int) L) := by rw [hL]; exact Ed.bl_once es (Nat.le_refl _)
            have HTP : Hid (IntsBlk wr w1.heap.size (Ed.pl j L)) := by
              rw [hL, ← Ed.tt_all, ← hT]
              exact hib
            have HRN := Nu.hid (rnamed_any (j : Int) (some ⟨w1.heap.size, 0, none⟩) j j (Ed.pl j L) ao cap es wr (HE.out.later hbx.low) hfew (Ed.pl_length _ _) HTP.out.at (Ed.val_fits HVAL.out (by rw [Ed.pl_length])) (Ed.pl_inj HON.out) (Si.sorted_nodup (Ed.sorted_of_val HVAL.out)))
            clear hrow hib hbx hL hT hli hlb
            go_wp2_with (go_at_call 47; refine HRN.out.mono ?_; rintro e w4 ⟨v, rfl, hown, hb4⟩; have hown2 : OwnE w4 w.heap.size v (Ed.named (Ed.pl j L) es) := hown.lower (by omega); obtain ⟨va, vc, rfl, -, -, -, hvb⟩ := hown.form; have HVB := Nu.hid hvb; have HB4 := Nu.hid (HBX.out.later hb4); obtain ⟨r0, r1⟩ := HB4.out.rcells; have f0 := HB4.out.free 0; have f1 := HB4.out.free 1; have HOWN := Nu.hid hown2; have HROW4 := Nu.hid (HROW.out.later hb4); have HFAR := Nu.hid (hown.far (b := w.heap.size + 1) (by omega)); clear hown2 hown hb4 hvb)
            obtain ⟨hb, s0, s1⟩ := HB4.out.store (.int .i64 (L.length : Int)) (.slice va (Ed.named (Ed.pl j L) es).length vc)
            refine bodyPost_ret (v := .tuple #[.agg #[.int .i64 (L.length : Int), .slice va (Ed.named (Ed.pl j L) es).length vc], .slice lo L.length lc, .int .i64 0]) (by simp [results, Try.results27, go_sem, s0, s1]) rfl ?_
            rw [← HLi.out]
            refine ⟨_, _, rfl, own_put2 HOWN.out HFAR.out _ _, ownz_put2 (HROW4.out.lower (by omega)) (fun h => ?_) _ _, fun b h1 h2 => ?_, hb⟩
            · cases lo with
              | none => cases h
              | some x =>
                have := HLB.out x rfl
                have e : x.block = w.heap.size + 1 := Option.some.inj h
                omega
            · cases lo with
              | none => cases h2
              | some x =>
                cases va with
                | none => cases h1
                | some y =>
                  have := HLB.out x rfl
                  have := HVB.out y rfl
                  have e : x.block = b := Option.some.inj h2
                  have e' : y.block = b := Option.some.inj h1
                  omega

end Go.Proofs.Ytdkckdbpbdhoaaa
