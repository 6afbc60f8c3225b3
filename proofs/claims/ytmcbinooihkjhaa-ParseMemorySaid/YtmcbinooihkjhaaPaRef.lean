/-
  What the document's own Raw answers, of any bytes.
-/
import Derived.Test.YtmcbinooihkjhaaPaTold
namespace Go.Proofs.Ytmcbinooihkjhaa
open Go.RowKit

/-- A way out by a fault. -/
theorem told_fault {r : Except (Int × Int) Pa.St} {w w1 : World} {x : Int × Int} (hb : Below w.heap.size w w1) (hr : r = .error x) : ToldPost r w (.returned (toldVal 0 (.slice none 0 0) (.slice none 0 0) x.1 x.2)) w1 := ⟨hb, .inl ⟨x, hr, rfl⟩⟩

theorem below_five {w w1 : World} (h : Below w.heap.size w w1) (a b c d e : Value) : Below w.heap.size w (((((w1.setCell ⟨w.heap.size, 0, none⟩ a).setCell ⟨w.heap.size, 1, none⟩ b).setCell ⟨w.heap.size, 2, none⟩ c).setCell ⟨w.heap.size, 3, none⟩ d).setCell ⟨w.heap.size, 4, none⟩ e) :=
  ((((h.setCell (by simp) _).setCell (by simp) _).setCell (by simp) _).setCell (by simp) _).setCell (by simp) _

theorem four_cells {w : World} {r : Nat} {a b c d : Value} {t : TypeId} (h : w.heap[r]? = some (.cells #[a, b, c, d] t (0, 0))) :
    w.cell? ⟨r, 0, none⟩ = some a ∧ w.cell? ⟨r, 1, none⟩ = some b ∧ w.cell? ⟨r, 2, none⟩ = some c ∧ w.cell? ⟨r, 3, none⟩ = some d := by
  refine ⟨?_, ?_, ?_, ?_⟩ <;> simp [World.cell?, h]

theorem new_int (W : World) (k : Nat) (hk : W.heap.size = k) (a : Value) : ∀ j u, [a][j]? = some u → (W.alloc (.cells #[a] 3)).cell? ((⟨k, 0, none⟩ : Addr).add j) = some u := by
  subst hk
  exact World.news_of_block (cs := #[a]) (t := 3) (fr := (0, 0)) (heap_alloc_new W _)

theorem own_five {wr : World} {B N : Nat} {v : Value} {zs : List Int} (h : OwnInts wr B v zs) (hN : N < B) (a b c d e : Value) : OwnInts (((((wr.setCell ⟨N, 0, none⟩ a).setCell ⟨N, 1, none⟩ b).setCell ⟨N, 2, none⟩ c).setCell ⟨N, 3, none⟩ d).setCell ⟨N, 4, none⟩ e) N v zs :=
  OwnInts.base (own_set (own_set (own_set (own_set (own_set h hN 0 a) hN 1 b) hN 2 c) hN 3 d) hN 4 e) (by omega)

set_option maxRecDepth 100000 in
set_option maxHeartbeats 4000000 in
theorem refraw_any (ao : Option Addr) (n cap : Nat) (g : Nat → Int) (w : World) (ht : HasText w ao n g) (hn : n ≤ maxLen) :
    Calls Try.prog 5 #[.slice ao n cap] w (ToldPost (Pa.raw g n) w) := by
  obtain ⟨i1, ii, iz0, iz1, iz2⟩ := info_parts Try.infoInt
  have hn' := hn
  unfold maxLen at hn'
  by_cases hA : 16777216 < n
  · have j0 : (16777216 : Int) < (n : Int) := by omega
    have hraw : Pa.raw g n = .error (10, 16777216) := by unfold Pa.raw; rw [if_pos hA]
    have HRAW := Nu.hid hraw
    clear hraw
    go_enter Try.func5, Try.ntmps5
    go_wp2_with (go_at_call 9; refine (fault_any _ _ _).mono ?_; rintro e w1 ⟨rfl, hb1⟩; have one1 := (One.new w).below hb1 (Nat.le_refl _); obtain ⟨r0, r1, r2, r3, r4, r5⟩ := five_cells one1.res; have ONE1 := Nu.hid one1; unfold toldVal; clear hb1 one1)
    exact bodyPost_ret (v := toldVal 0 (.slice none 0 0) (.slice none 0 0) 10 16777216) (by simp [results, Try.results5, go_sem, toldVal, *]) rfl (told_fault (below_five ONE1.out.bel _ _ _ _ _) HRAW.out)
  · have j0 : ¬ ((16777216 : Int) < (n : Int)) := by omega
    have HT0 := Nu.hid (ht.later (One.new w).bel)
    clear ht
    go_enter Try.func5, Try.ntmps5
    go_wp2_with (go_at_call 10; refine (ref_any ao n cap g _ HT0.out hn).mono ?_; refine Hid.out ?_)
    refine Nu.hid ?_
    rintro e w1 ⟨hb1, hx⟩
    have one1 := (One.new w).below hb1 (Nat.le_refl _)
    have hs1 := one1.size
    have ONE1 := Nu.hid one1
    clear one1 hb1
    rcases hx with ⟨h, _⟩ | ⟨_, x, hs, rfl⟩ | ⟨_, ts, v, hs, rfl, hv⟩
    · omega
    · have hraw : Pa.raw g n = .error (x.2, x.1) := by unfold Pa.raw; rw [if_neg hA, hs]
      have hcode := Nu.scan_code hs
      have jx : (x.2 != 0) = true := by simp; omega
      have HRAW := Nu.hid hraw
      clear hraw hs hcode
      go_wp2_with (go_at_call 9; refine (fault_any _ _ _).mono ?_; rintro e w2 ⟨rfl, hb2⟩; have one2 := ONE1.out.below hb2 (Nat.le_refl _); obtain ⟨r0, r1, r2, r3, r4, r5⟩ := five_cells one2.res; have ONE2 := Nu.hid one2; unfold toldVal; clear hb2 one2)
      exact bodyPost_ret (v := toldVal 0 (.slice none 0 0) (.slice none 0 0) x.2 x.1) (by simp [results, Try.results5, go_sem, toldVal, *]) rfl (told_fault (below_five ONE2.out.bel _ _ _ _ _) HRAW.out)
    · have hraw : Pa.raw g n = Pa.go Pa.s0 (Pa.lns [] ts) n := by unfold Pa.raw; rw [if_neg hA, hs]; rfl
      have hlen := Nu.scan_length hs
      have hfit := Nu.scan_fits hs
      obtain ⟨us0, hus, _⟩ := Pa.scan_shape hs
      have hpos : 0 < ts.length := by rw [hus]; simp
      obtain ⟨T, vc, rfl, hT, hl⟩ : ∃ T vc, v = Value.slice (some ⟨T, 0, none⟩) ts.length vc ∧ T < w1.heap.size ∧ LineAt w1 T 0 ts := by
        have hv' := hv
        unfold OwnToks at hv'
        rcases hv.2 with ⟨_, h⟩ | ⟨T, vc, _, rfl, _, hh, _⟩
        · omega
        · exact ⟨T, vc, rfl, lt_of_block hh, flat_line hv'⟩
      obtain ⟨ls, hls⟩ : ∃ ls, ls = Pa.lns [] ts := ⟨_, rfl⟩
      have hfl : ∀ l ∈ ls, ∀ t ∈ l, 0 ≤ t.num ∧ t.num < 1000000000 := fun l hl t ht => by
        rw [hls] at hl
        rcases Pa.lns_mem [] ts l hl t ht with h | h
        · cases h
        · have := hfit t h; exact ⟨this.2.2.2.2.2.1, this.2.2.2.2.2.2⟩
      have hlsl : ls.length ≤ 16777217 := by have := Pa.lns_length [] ts; rw [← hls] at this; omega
      rw [← hls] at hraw
      have HRAW := Nu.hid hraw
      have HLS := Nu.hid hls
      have HL := Nu.hid hl
      have HFL := Nu.hid hfl
      clear hraw hs hfit hus hv hls hl hfl
      go_wp2_with (go_at_call 11; refine (lines_any T _ ts _ HL.out hT (by omega)).mono ?_; refine Hid.out ?_)
      refine Nu.hid ?_
      rintro e w2 ⟨hb2, vo, rfl, hla⟩
      rw [← HLS.out] at hla
      have one2 := ONE1.out.below hb2 (Nat.le_refl _)
      have hs2 := one2.size
      have ONE2 := Nu.hid one2
      obtain ⟨lo, lc, rfl, hlx⟩ := hla
      have HLA := Nu.hid hlx
      clear hlx hb2 one2
      cases ls with
      | nil =>
        have hfin : Pa.raw g n = .error (20, n) := by rw [HRAW.out]; rfl
        have HFIN := Nu.hid hfin
        clear hfin
        go_wp2_with (go_at_call 9; refine (fault_any _ _ _).mono ?_; rintro e w3 ⟨rfl, hb3⟩; have one3 := ONE2.out.below hb3 (Nat.le_refl _); obtain ⟨r0, r1, r2, r3, r4, r5⟩ := five_cells one3.res; have ONE3 := Nu.hid one3; unfold toldVal; clear hb3 one3)
        exact bodyPost_ret (v := toldVal 0 (.slice none 0 0) (.slice none 0 0) 20 n) (by simp [results, Try.results5, go_sem, toldVal, *]) rfl (told_fault (below_five ONE3.out.bel _ _ _ _ _) HFIN.out)
      | cons l0 rest =>
        obtain ⟨hne0, O, g0, cc0, rfl, hc0, hl0⟩ := HLA.out 0 l0 rfl
        obtain ⟨k0, k1, k2, k3⟩ := hl0.fst hne0
        have hlp : 0 < l0.length := List.length_pos_iff.2 hne0
        have hpl : (0 : Int) < (l0.length : Int) := by omega
        have hlr : (l0 :: rest).length = rest.length + 1 := rfl
        rw [hlr]
        have jr : ((rest.length + 1 : Nat) : Int) = (rest.length : Int) + 1 := by omega
        have hrl : rest.length ≤ 16777216 := by simp at hlsl; omega
        have j00 : ((rest.length : Int) + 1 == 0) = false := by simp; omega
        clear hlr
        by_cases h2 : l0.length = 2
        · have j2 : ((l0.length : Int) != 2) = false := by simp; omega
          have hp1 : (1 : Int) < (l0.length : Int) := by omega
          obtain ⟨q0, q1, q2, q3⟩ := hl0.snd h2
          have hf0 : 0 ≤ (Pa.tk l0 0).num ∧ (Pa.tk l0 0).num < 1000000000 := by
            refine HFL.out l0 (by simp) _ ?_
            cases l0 with
            | nil => exact absurd rfl hne0
            | cons t l => simp [Pa.tk]
          have hf1 : 0 ≤ (Pa.tk l0 1).num ∧ (Pa.tk l0 1).num < 1000000000 := by
            refine HFL.out l0 (by simp) _ ?_
            cases l0 with
            | nil => exact absurd rfl hne0
            | cons t l => cases l with
              | nil => simp at h2
              | cons u l => simp [Pa.tk]
          by_cases hN : 1048576 < (Pa.tk l0 0).num
          · have hfin : Pa.raw g n = .error (21, (Pa.tk l0 0).at') := by
              rw [HRAW.out]
              exact Pa.go_error (by unfold Pa.line Pa.header; simp [Pa.s0, h2, hN])
            have HFIN := Nu.hid hfin
            clear hfin
            go_wp2_with fail
            go_quiet (fail)
            go_wp2_with (go_at_call 9; refine (fault_any _ _ _).mono ?_; rintro e w3 ⟨rfl, hb3⟩; have one3 := (ONE2.out.drewN nq).below hb3 (Nat.le_refl _); obtain ⟨r0, r1, r2, r3, r4, r5⟩ := five_cells one3.res; have ONE3 := Nu.hid one3; unfold toldVal; clear hb3 one3)
            exact bodyPost_ret (v := toldVal 0 (.slice none 0 0) (.slice none 0 0) 21 (Pa.tk l0 0).at') (by simp [results, Try.results5, go_sem, toldVal, *]) rfl (told_fault (below_five ONE3.out.bel _ _ _ _ _) HFIN.out)
          · by_cases hM : 2097152 < (Pa.tk l0 1).num
            · have hfin : Pa.raw g n = .error (22, (Pa.tk l0 1).at') := by
                rw [HRAW.out]
                exact Pa.go_error (by unfold Pa.line Pa.header; simp [Pa.s0, h2, hN, hM])
              have HFIN := Nu.hid hfin
              clear hfin
              go_wp2_with fail
              go_quiet (fail)
              go_wp2_with (go_at_call 9; refine (fault_any _ _ _).mono ?_; rintro e w3 ⟨rfl, hb3⟩; have one3 := (ONE2.out.drewN nq).below hb3 (Nat.le_refl _); obtain ⟨r0, r1, r2, r3, r4, r5⟩ := five_cells one3.res; have ONE3 := Nu.hid one3; unfold toldVal; clear hb3 one3)
              exact bodyPost_ret (v := toldVal 0 (.slice none 0 0) (.slice none 0 0) 22 (Pa.tk l0 1).at') (by simp [results, Try.results5, go_sem, toldVal, *]) rfl (told_fault (below_five ONE3.out.bel _ _ _ _ _) HFIN.out)
            · have hgo : Pa.raw g n = Pa.go ⟨true, (Pa.tk l0 0).num, (Pa.tk l0 1).num, []⟩ rest n := by
                rw [HRAW.out]
                exact Pa.go_ok (by unfold Pa.line Pa.header; simp [Pa.s0, h2, hN, hM])
              have HGO := Nu.hid hgo
              clear hgo
              go_wp2_with fail
              go_quiet (fail)
              have hlaW : LinesAt (w2.drewN nq) (.slice (some ⟨O, 0, none⟩) (l0 :: rest).length lc) (l0 :: rest) := ⟨_, _, rfl, HLA.out⟩
              have oneW := ONE2.out.drewN nq
              generalize w2.drewN nq = W at hlaW oneW ⊢
              have hsW := oneW.size
              have HLAW := Nu.hid hlaW
              have ONEW := Nu.hid oneW
              clear hlaW oneW hc0 hl0 k0 k1 k2 k3 q0 q1 q2 q3 HLA ONE2
              have tinv0 : TInv W.heap.size W (W.alloc (.cells #[.int .i64 (Pa.tk l0 0).num, .slice none 0 0, .slice none 0 0, .int .i64 0, .int .i64 0] 26)) (Pa.tk l0 0).num (.slice none 0 0) (.slice none 0 0) [] [] :=
                ⟨(Below.refl _ _).alloc (Nat.le_refl _) _, heap_alloc_new W _, World.ownsRow_nil _ _ _ _, World.ownsRow_nil _ _ _ _, fun g h => by simp [Value.ownBlock] at h⟩
              have TINV0 := Nu.hid tinv0
              clear tinv0
              go_wp2_with fail
              go_loopw [10] (fun c wr => ∃ (done todo : List (List Nu.Tok)) (ps : List (Int × Int)) (U V : Value) (zu zv : List Int) (k : Nat), rest = done ++ todo ∧ zu = ps.map Prod.fst ∧ zv = ps.map Prod.snd ∧ k = done.length + 1 ∧ c = .int .i64 k ∧ ps.length = done.length ∧ (ps.length : Int) ≤ (Pa.tk l0 1).num ∧
                  Pa.raw g n = Pa.go ⟨true, (Pa.tk l0 0).num, (Pa.tk l0 1).num, ps⟩ todo n ∧ TInv W.heap.size W wr (Pa.tk l0 0).num U V zu zv) (fun c _ => rest.length + 1 - (intOf c).toNat)
              case atStart => exact ⟨[], rest, [], .slice none 0 0, .slice none 0 0, [], [], 1, rfl, rfl, rfl, rfl, rfl, rfl, by simpa using hf1.1, HGO.out, TINV0.out⟩
              case round =>
                obtain ⟨done, todo, ps, U, V, zu, zv, k, hrest, hzu, hzv, hkd, rfl, hpl, hpm, hgo, hti⟩ := hrel
                have hzul : zu.length = ps.length := by rw [hzu]; simp
                have hzvl : zv.length = ps.length := by rw [hzv]; simp
                have hts := hti.size
                obtain ⟨t0, t1, t2, t3, t4, t5⟩ := five_cells hti.told
                have one3 := ONEW.out.below hti.bel (Nat.le_refl _)
                obtain ⟨r0, r1, r2, r3, r4, r5⟩ := five_cells one3.res
                have la3 := HLAW.out.below hti.bel (Nat.le_refl _)
                have ONE3 := Nu.hid one3
                have LA3 := Nu.hid la3
                have HTI := Nu.hid hti
                have HREST := Nu.hid hrest
                have HPL := Nu.hid hpl
                have HGO3 := Nu.hid hgo
                obtain ⟨ua, uc, rfl, -⟩ := hti.us.form
                obtain ⟨va, vc', rfl, -⟩ := hti.vs.form
                have HZU := Nu.hid hzu
                have HZV := Nu.hid hzv
                have HZUL := Nu.hid hzul
                have HZVL := Nu.hid hzvl
                clear one3 la3 hti hgo hzu hzv hzul hzvl
                cases todo with
                | nil =>
                  have hdl : done.length = rest.length := by rw [hrest]; simp
                  have hd : ¬ ((k : Int) < (rest.length : Int) + 1) := by omega
                  have hkb : (k : Int) ≤ 16777217 := by omega
                  by_cases hm : (ps.length : Int) < (Pa.tk l0 1).num
                  · have hfin : Pa.raw g n = .error (25, n) := by
                      rw [HGO3.out, Pa.go_nil]
                      unfold Pa.fin
                      rw [if_neg (by simp), if_pos hm]
                    have jm : (rest.length : Int) < (Pa.tk l0 1).num := by omega
                    have HFIN := Nu.hid hfin
                    clear hfin hrest hdl hpl hkd
                    go_wp2_with (go_at_call 9; refine (fault_any _ _ _).mono ?_; rintro e w4 ⟨rfl, hb4⟩; have one4 := ONE3.out.below hb4 (Nat.le_refl _); obtain ⟨r0, r1, r2, r3, r4, r5⟩ := five_cells one4.res; have ONE4 := Nu.hid one4; unfold toldVal; clear hb4 one4)
                    exact bodyPost_ret (v := toldVal 0 (.slice none 0 0) (.slice none 0 0) 25 n) (by simp [results, Try.results5, go_sem, toldVal, *]) rfl (told_fault (below_five ONE4.out.bel _ _ _ _ _) HFIN.out)
                  · have hfin : Pa.raw g n = .ok ⟨true, (Pa.tk l0 0).num, (Pa.tk l0 1).num, ps⟩ := by
                      rw [HGO3.out, Pa.go_nil]
                      unfold Pa.fin
                      rw [if_neg (by simp), if_neg hm]
                    have jm : ¬ ((rest.length : Int) < (Pa.tk l0 1).num) := by omega
                    have HFIN := Nu.hid hfin
                    clear hfin hrest hdl hpl hkd
                    go_wp2_with fail
                    refine bodyPost_ret (v := toldVal (Pa.tk l0 0).num (.slice ua zu.length uc) (.slice va zv.length vc') 0 0) (by simp [results, Try.results5, go_sem, toldVal, *]) rfl ⟨below_five ONE3.out.bel _ _ _ _ _, .inr ⟨_, _, _, HFIN.out, rfl, ?_, ?_⟩⟩
                    · exact own_five (by rw [← HZU.out]; exact HTI.out.us) (by omega) _ _ _ _ _
                    · exact own_five (by rw [← HZV.out]; exact HTI.out.vs) (by omega) _ _ _ _ _
                | cons l todo =>
                  obtain ⟨lo, lc', elo, hlx⟩ := LA3.out
                  cases elo
                  obtain ⟨hne, O', g1, cc, elo, hc, hl⟩ := hlx k l (by rw [hkd, HREST.out]; simp)
                  cases elo
                  have hdl : done.length + todo.length + 1 = rest.length := by rw [hrest]; simp; omega
                  have hkb : (k : Int) ≤ 16777217 := by omega
                  have hk0 : (0 : Int) ≤ (k : Int) := by omega
                  have hkl : (k : Int) < (rest.length : Int) + 1 := by omega
                  have hg1 := (hl.fst hne).lt
                  have hO : O < wr.heap.size := block_lt_of_cell hc
                  obtain ⟨k0, k1, k2, k3⟩ := hl.fst hne
                  have hlp : 0 < l.length := List.length_pos_iff.2 hne
                  have hpl1 : (0 : Int) < (l.length : Int) := by omega
                  have HL3 := Nu.hid hl
                  have HKD := Nu.hid hkd
                  by_cases hm : (Pa.tk l0 1).num < (k : Int)
                  · have hfin : Pa.raw g n = .error (26, (Pa.tk l 0).at') := by
                      rw [HGO3.out]
                      refine Pa.go_error ?_
                      unfold Pa.line Pa.edge
                      rw [if_pos rfl, if_pos (by dsimp only; omega)]
                    have HFIN := Nu.hid hfin
                    clear hfin hrest hdl hpl hkd hl hlx
                    go_wp2_with (go_at_call 9; refine (fault_any _ _ _).mono ?_; rintro e w4 ⟨rfl, hb4⟩; have one4 := ONE3.out.below hb4 (Nat.le_refl _); obtain ⟨r0, r1, r2, r3, r4, r5⟩ := five_cells one4.res; have ONE4 := Nu.hid one4; unfold toldVal; clear hb4 one4)
                    exact bodyPost_ret (v := toldVal 0 (.slice none 0 0) (.slice none 0 0) 26 (Pa.tk l 0).at') (by simp [results, Try.results5, go_sem, toldVal, *]) rfl (told_fault (below_five ONE4.out.bel _ _ _ _ _) HFIN.out)
                  · have hne26 : ¬ ((ps.length : Int) = (Pa.tk l0 1).num) := by omega
                    by_cases hl2 : l.length = 2
                    · have j2' : ((l.length : Int) != 2) = false := by simp; omega
                      have hp1' : (1 : Int) < (l.length : Int) := by omega
                      obtain ⟨q0, q1, q2, q3⟩ := hl.snd hl2
                      clear hrest hdl hl hlx
                      have HPL := Nu.hid hpl
                      have HNE26 := Nu.hid hne26
                      clear hpl hkd hne26
                      go_wp2_with fail
                      go_region
                      · have bl0 : (((wr.alloc (.cells #[.int .i64 (Pa.tk l 0).kind, .int .i64 (Pa.tk l 0).at', .int .i64 (Pa.tk l 0).fin, .int .i64 (Pa.tk l 0).num] 48)).alloc (.cells #[.int .i64 (Pa.tk l 1).kind, .int .i64 (Pa.tk l 1).at', .int .i64 (Pa.tk l 1).fin, .int .i64 (Pa.tk l 1).num] 48)).drew).heap[wr.heap.size]? = some (.cells #[.int .i64 (Pa.tk l 0).kind, .int .i64 (Pa.tk l 0).at', .int .i64 (Pa.tk l 0).fin, .int .i64 (Pa.tk l 0).num] 48 (0, 0)) := (Below.heap_alloc _ _ _ (by simp)).trans (heap_alloc_new wr _)
                        have bl1 : (((wr.alloc (.cells #[.int .i64 (Pa.tk l 0).kind, .int .i64 (Pa.tk l 0).at', .int .i64 (Pa.tk l 0).fin, .int .i64 (Pa.tk l 0).num] 48)).alloc (.cells #[.int .i64 (Pa.tk l 1).kind, .int .i64 (Pa.tk l 1).at', .int .i64 (Pa.tk l 1).fin, .int .i64 (Pa.tk l 1).num] 48)).drew).heap[wr.heap.size + 1]? = some (.cells #[.int .i64 (Pa.tk l 1).kind, .int .i64 (Pa.tk l 1).at', .int .i64 (Pa.tk l 1).fin, .int .i64 (Pa.tk l 1).num] 48 (0, 0)) := by
                          have := heap_alloc_new (wr.alloc (.cells #[.int .i64 (Pa.tk l 0).kind, .int .i64 (Pa.tk l 0).at', .int .i64 (Pa.tk l 0).fin, .int .i64 (Pa.tk l 0).num] 48)) (.cells #[.int .i64 (Pa.tk l 1).kind, .int .i64 (Pa.tk l 1).at', .int .i64 (Pa.tk l 1).fin, .int .i64 (Pa.tk l 1).num] 48)
                          rw [World.size_alloc] at this
                          exact this
                        have xs : (((wr.alloc (.cells #[.int .i64 (Pa.tk l 0).kind, .int .i64 (Pa.tk l 0).at', .int .i64 (Pa.tk l 0).fin, .int .i64 (Pa.tk l 0).num] 48)).alloc (.cells #[.int .i64 (Pa.tk l 1).kind, .int .i64 (Pa.tk l 1).at', .int .i64 (Pa.tk l 1).fin, .int .i64 (Pa.tk l 1).num] 48)).drew).heap.size = wr.heap.size + 2 := by show ((wr.alloc (.cells #[.int .i64 (Pa.tk l 0).kind, .int .i64 (Pa.tk l 0).at', .int .i64 (Pa.tk l 0).fin, .int .i64 (Pa.tk l 0).num] 48)).alloc (.cells #[.int .i64 (Pa.tk l 1).kind, .int .i64 (Pa.tk l 1).at', .int .i64 (Pa.tk l 1).fin, .int .i64 (Pa.tk l 1).num] 48)).heap.size = _; simp
                        have tiX := ((HTI.out.alloc (.cells #[.int .i64 (Pa.tk l 0).kind, .int .i64 (Pa.tk l 0).at', .int .i64 (Pa.tk l 0).fin, .int .i64 (Pa.tk l 0).num] 48)).alloc (.cells #[.int .i64 (Pa.tk l 1).kind, .int .i64 (Pa.tk l 1).at', .int .i64 (Pa.tk l 1).fin, .int .i64 (Pa.tk l 1).num] 48)).drew
                        have oneX : One w (((wr.alloc (.cells #[.int .i64 (Pa.tk l 0).kind, .int .i64 (Pa.tk l 0).at', .int .i64 (Pa.tk l 0).fin, .int .i64 (Pa.tk l 0).num] 48)).alloc (.cells #[.int .i64 (Pa.tk l 1).kind, .int .i64 (Pa.tk l 1).at', .int .i64 (Pa.tk l 1).fin, .int .i64 (Pa.tk l 1).num] 48)).drew) := ⟨(((ONE3.out.bel.alloc ONE3.out.bel.size _).alloc (by have := ONE3.out.bel.size; simp; omega) _)).drew, (Below.heap_alloc _ _ _ (by have := ONE3.out.size; simp; omega)).trans ((Below.heap_alloc _ _ _ (by have := ONE3.out.size; omega)).trans ONE3.out.res)⟩
                        generalize ((wr.alloc (.cells #[.int .i64 (Pa.tk l 0).kind, .int .i64 (Pa.tk l 0).at', .int .i64 (Pa.tk l 0).fin, .int .i64 (Pa.tk l 0).num] 48)).alloc (.cells #[.int .i64 (Pa.tk l 1).kind, .int .i64 (Pa.tk l 1).at', .int .i64 (Pa.tk l 1).fin, .int .i64 (Pa.tk l 1).num] 48)).drew = X at bl0 bl1 xs tiX oneX ⊢
                        obtain ⟨u00, u01, u02, u03⟩ := four_cells bl0
                        obtain ⟨u10, u11, u12, u13⟩ := four_cells bl1
                        obtain ⟨t0, t1, t2, t3, t4, t5⟩ := five_cells tiX.told
                        obtain ⟨r0, r1, r2, r3, r4, r5⟩ := five_cells oneX.res
                        have TIX := Nu.hid tiX
                        have ONEX := Nu.hid oneX
                        have XS := Nu.hid xs
                        have BL0 := Nu.hid bl0
                        have BL1 := Nu.hid bl1
                        have hXs : W.heap.size < X.heap.size := by omega
                        have n1 : W.heap.size ≠ (wr.heap.size + 1) := by omega
                        have n2 : (wr.heap.size + 1) ≠ W.heap.size := by omega
                        clear tiX oneX bl0 bl1 xs
                        by_cases hu : (Pa.tk l0 0).num ≤ (Pa.tk l 0).num
                        · have hfin : Pa.raw g n = .error (24, (Pa.tk l 0).at') := by
                            rw [HGO3.out]
                            refine Pa.go_error ?_
                            unfold Pa.line Pa.edge
                            rw [if_pos rfl, if_neg HNE26.out, if_neg (by omega), if_pos hu]
                          have HFIN := Nu.hid hfin
                          clear hfin
                          go_wp2_with (go_at_call 9; refine (fault_any _ _ _).mono ?_; rintro e w4 ⟨rfl, hb4⟩; have one4 := ONEX.out.below hb4 (Nat.le_refl _); obtain ⟨r0, r1, r2, r3, r4, r5⟩ := five_cells one4.res; have ONE4 := Nu.hid one4; unfold toldVal; clear hb4 one4)
                          exact bodyPost_ret (v := toldVal 0 (.slice none 0 0) (.slice none 0 0) 24 (Pa.tk l 0).at') (by simp [results, Try.results5, go_sem, toldVal, *]) rfl (told_fault (below_five ONE4.out.bel _ _ _ _ _) HFIN.out)
                        · by_cases hv : (Pa.tk l0 0).num ≤ (Pa.tk l 1).num
                          · have hfin : Pa.raw g n = .error (24, (Pa.tk l 1).at') := by
                              rw [HGO3.out]
                              refine Pa.go_error ?_
                              unfold Pa.line Pa.edge
                              rw [if_pos rfl, if_neg HNE26.out, if_neg (by omega), if_neg hu, if_pos hv]
                            have HFIN := Nu.hid hfin
                            clear hfin
                            go_wp2_with (go_at_call 9; refine (fault_any _ _ _).mono ?_; rintro e w4 ⟨rfl, hb4⟩; have one4 := ONEX.out.below hb4 (Nat.le_refl _); obtain ⟨r0, r1, r2, r3, r4, r5⟩ := five_cells one4.res; have ONE4 := Nu.hid one4; unfold toldVal; clear hb4 one4)
                            exact bodyPost_ret (v := toldVal 0 (.slice none 0 0) (.slice none 0 0) 24 (Pa.tk l 1).at') (by simp [results, Try.results5, go_sem, toldVal, *]) rfl (told_fault (below_five ONE4.out.bel _ _ _ _ _) HFIN.out)
                          · have hgo4 : Pa.raw g n = Pa.go ⟨true, (Pa.tk l0 0).num, (Pa.tk l0 1).num, ps ++ [((Pa.tk l 0).num, (Pa.tk l 1).num)]⟩ todo n := by
                              rw [HGO3.out]
                              refine Pa.go_ok ?_
                              unfold Pa.line Pa.edge
                              rw [if_pos rfl, if_neg HNE26.out, if_neg (by omega), if_neg hu, if_neg hv]
                            have HGO4 := Nu.hid hgo4
                            clear hgo4
                            have hpb : zu.length ≤ 16777217 := by have := HZUL.out; have := HPL.out; have := HKD.out; omega
                            have hpb' : zv.length ≤ 16777217 := by have := HZVL.out; have := HPL.out; have := HKD.out; omega
                            go_wp2_with (at_builtin; refine wpList_append_own_at _ rfl _ _ 24 rfl (W.heap.size + 1) 3 i1 (.int .i64 0) 1 8 Try.underlying24 ii iz0 iz1 iz2 rfl (by decide) _ _ _ rfl (World.ownsRow.alloc TIX.out.us _) ⟨X.heap.size, 0, none⟩ 1 1 [.int .i64 (Pa.tk l 0).num] rfl rfl (new_int X _ rfl _) (by simp [Value.oneCell']) (by unfold maxLen; omega) (by omega) (by simp; omega) ?_; refine Hid.out ?_)
                            refine Nu.hid ?_
                            intro U' w5 hown' hg _ hat
                            have ti5 := TIX.out.pushU hown' hg hat
                            have hbt : w5.heap[W.heap.size]? = _ := (app_other hg hXs (fun e => by have := (TIX.out.us.lt _ e.symm).1; omega)).trans TIX.out.told
                            have hbv : w5.heap[(wr.heap.size + 1)]? = _ := (app_other hg (by have := XS.out; omega) (fun e => by have := (HTI.out.us.lt _ e.symm).2; omega)).trans BL1.out
                            obtain ⟨t0, t1, t2, t3, t4, t5⟩ := five_cells hbt
                            obtain ⟨u10, u11, u12, u13⟩ := four_cells hbv
                            have hs5 : X.heap.size + 1 ≤ w5.heap.size := by have := hg.size; simpa using this
                            have n3 : W.heap.size < w5.heap.size := by omega
                            have n4 : (wr.heap.size + 1) < w5.heap.size := by have := XS.out; omega
                            obtain ⟨ua', uc', rfl, -⟩ := OwnInts.form (zs := zu ++ [(Pa.tk l 0).num]) (by unfold OwnInts; rw [List.map_append, List.length_append]; exact hown')
                            have TI5 := Nu.hid ti5
                            have hul : (zu ++ [(Pa.tk l 0).num]).length = zu.length + 1 := by simp
                            rw [hul] at TI5 ⊢
                            clear hown' hg hat ti5 hbt hbv hul
                            go_wp2_with (at_builtin; refine wpList_append_own_at _ rfl _ _ 24 rfl (W.heap.size + 1) 3 i1 (.int .i64 0) 1 8 Try.underlying24 ii iz0 iz1 iz2 rfl (by decide) _ _ _ rfl (World.ownsRow.alloc TI5.out.vs _) ⟨w5.heap.size, 0, none⟩ 1 1 [.int .i64 (Pa.tk l 1).num] rfl rfl (new_int _ _ (by simp) _) (by simp [Value.oneCell']) (by unfold maxLen; omega) (by omega) (by simp; omega) ?_; refine Hid.out ?_)
                            refine Nu.hid ?_
                            intro V' w6 hown6 hg6 _ hat6
                            have ti6 := TI5.out.pushV hown6 hg6 (by simpa using hat6)
                            have hb6 : w6.heap[W.heap.size]? = _ := (app_other hg6 (by simp; omega) (fun e => by have := (TI5.out.vs.lt _ e.symm).1; omega)).trans TI5.out.told
                            obtain ⟨t0, t1, t2, t3, t4, t5⟩ := five_cells hb6
                            obtain ⟨va', vc6, rfl, -⟩ := OwnInts.form (zs := zv ++ [(Pa.tk l 1).num]) (by unfold OwnInts; rw [List.map_append, List.length_append]; exact hown6)
                            have TI6 := Nu.hid ti6
                            have hvl : (zv ++ [(Pa.tk l 1).num]).length = zv.length + 1 := by simp
                            rw [hvl] at TI6 ⊢
                            clear hown6 hg6 hat6 ti6 hb6 hvl
                            go_wp2
                            go_roundw
                            case rel =>
                              refine ⟨done ++ [l], todo, ps ++ [((Pa.tk l 0).num, (Pa.tk l 1).num)], _, _, zu ++ [(Pa.tk l 0).num], zv ++ [(Pa.tk l 1).num], k + 1, by rw [HREST.out]; simp, by rw [HZU.out]; simp, by rw [HZV.out]; simp, by rw [HKD.out]; simp, by go_num, by have := HPL.out; simp; omega, by have := HPL.out; have := HKD.out; simp; omega, HGO4.out, TI6.out⟩
                            case measure => simp [intOf]; omega
                      · have bl0 : (((wr.alloc (.cells #[.int .i64 (Pa.tk l 1).kind, .int .i64 (Pa.tk l 1).at', .int .i64 (Pa.tk l 1).fin, .int .i64 (Pa.tk l 1).num] 48)).alloc (.cells #[.int .i64 (Pa.tk l 0).kind, .int .i64 (Pa.tk l 0).at', .int .i64 (Pa.tk l 0).fin, .int .i64 (Pa.tk l 0).num] 48)).drew).heap[wr.heap.size]? = some (.cells #[.int .i64 (Pa.tk l 1).kind, .int .i64 (Pa.tk l 1).at', .int .i64 (Pa.tk l 1).fin, .int .i64 (Pa.tk l 1).num] 48 (0, 0)) := (Below.heap_alloc _ _ _ (by simp)).trans (heap_alloc_new wr _)
                        have bl1 : (((wr.alloc (.cells #[.int .i64 (Pa.tk l 1).kind, .int .i64 (Pa.tk l 1).at', .int .i64 (Pa.tk l 1).fin, .int .i64 (Pa.tk l 1).num] 48)).alloc (.cells #[.int .i64 (Pa.tk l 0).kind, .int .i64 (Pa.tk l 0).at', .int .i64 (Pa.tk l 0).fin, .int .i64 (Pa.tk l 0).num] 48)).drew).heap[wr.heap.size + 1]? = some (.cells #[.int .i64 (Pa.tk l 0).kind, .int .i64 (Pa.tk l 0).at', .int .i64 (Pa.tk l 0).fin, .int .i64 (Pa.tk l 0).num] 48 (0, 0)) := by
                          have := heap_alloc_new (wr.alloc (.cells #[.int .i64 (Pa.tk l 1).kind, .int .i64 (Pa.tk l 1).at', .int .i64 (Pa.tk l 1).fin, .int .i64 (Pa.tk l 1).num] 48)) (.cells #[.int .i64 (Pa.tk l 0).kind, .int .i64 (Pa.tk l 0).at', .int .i64 (Pa.tk l 0).fin, .int .i64 (Pa.tk l 0).num] 48)
                          rw [World.size_alloc] at this
                          exact this
                        have xs : (((wr.alloc (.cells #[.int .i64 (Pa.tk l 1).kind, .int .i64 (Pa.tk l 1).at', .int .i64 (Pa.tk l 1).fin, .int .i64 (Pa.tk l 1).num] 48)).alloc (.cells #[.int .i64 (Pa.tk l 0).kind, .int .i64 (Pa.tk l 0).at', .int .i64 (Pa.tk l 0).fin, .int .i64 (Pa.tk l 0).num] 48)).drew).heap.size = wr.heap.size + 2 := by show ((wr.alloc (.cells #[.int .i64 (Pa.tk l 1).kind, .int .i64 (Pa.tk l 1).at', .int .i64 (Pa.tk l 1).fin, .int .i64 (Pa.tk l 1).num] 48)).alloc (.cells #[.int .i64 (Pa.tk l 0).kind, .int .i64 (Pa.tk l 0).at', .int .i64 (Pa.tk l 0).fin, .int .i64 (Pa.tk l 0).num] 48)).heap.size = _; simp
                        have tiX := ((HTI.out.alloc (.cells #[.int .i64 (Pa.tk l 1).kind, .int .i64 (Pa.tk l 1).at', .int .i64 (Pa.tk l 1).fin, .int .i64 (Pa.tk l 1).num] 48)).alloc (.cells #[.int .i64 (Pa.tk l 0).kind, .int .i64 (Pa.tk l 0).at', .int .i64 (Pa.tk l 0).fin, .int .i64 (Pa.tk l 0).num] 48)).drew
                        have oneX : One w (((wr.alloc (.cells #[.int .i64 (Pa.tk l 1).kind, .int .i64 (Pa.tk l 1).at', .int .i64 (Pa.tk l 1).fin, .int .i64 (Pa.tk l 1).num] 48)).alloc (.cells #[.int .i64 (Pa.tk l 0).kind, .int .i64 (Pa.tk l 0).at', .int .i64 (Pa.tk l 0).fin, .int .i64 (Pa.tk l 0).num] 48)).drew) := ⟨(((ONE3.out.bel.alloc ONE3.out.bel.size _).alloc (by have := ONE3.out.bel.size; simp; omega) _)).drew, (Below.heap_alloc _ _ _ (by have := ONE3.out.size; simp; omega)).trans ((Below.heap_alloc _ _ _ (by have := ONE3.out.size; omega)).trans ONE3.out.res)⟩
                        generalize ((wr.alloc (.cells #[.int .i64 (Pa.tk l 1).kind, .int .i64 (Pa.tk l 1).at', .int .i64 (Pa.tk l 1).fin, .int .i64 (Pa.tk l 1).num] 48)).alloc (.cells #[.int .i64 (Pa.tk l 0).kind, .int .i64 (Pa.tk l 0).at', .int .i64 (Pa.tk l 0).fin, .int .i64 (Pa.tk l 0).num] 48)).drew = X at bl0 bl1 xs tiX oneX ⊢
                        obtain ⟨u10, u11, u12, u13⟩ := four_cells bl0
                        obtain ⟨u00, u01, u02, u03⟩ := four_cells bl1
                        obtain ⟨t0, t1, t2, t3, t4, t5⟩ := five_cells tiX.told
                        obtain ⟨r0, r1, r2, r3, r4, r5⟩ := five_cells oneX.res
                        have TIX := Nu.hid tiX
                        have ONEX := Nu.hid oneX
                        have XS := Nu.hid xs
                        have BL0 := Nu.hid bl0
                        have BL1 := Nu.hid bl1
                        have hXs : W.heap.size < X.heap.size := by omega
                        have n1 : W.heap.size ≠ wr.heap.size := by omega
                        have n2 : wr.heap.size ≠ W.heap.size := by omega
                        clear tiX oneX bl0 bl1 xs
                        by_cases hu : (Pa.tk l0 0).num ≤ (Pa.tk l 0).num
                        · have hfin : Pa.raw g n = .error (24, (Pa.tk l 0).at') := by
                            rw [HGO3.out]
                            refine Pa.go_error ?_
                            unfold Pa.line Pa.edge
                            rw [if_pos rfl, if_neg HNE26.out, if_neg (by omega), if_pos hu]
                          have HFIN := Nu.hid hfin
                          clear hfin
                          go_wp2_with (go_at_call 9; refine (fault_any _ _ _).mono ?_; rintro e w4 ⟨rfl, hb4⟩; have one4 := ONEX.out.below hb4 (Nat.le_refl _); obtain ⟨r0, r1, r2, r3, r4, r5⟩ := five_cells one4.res; have ONE4 := Nu.hid one4; unfold toldVal; clear hb4 one4)
                          exact bodyPost_ret (v := toldVal 0 (.slice none 0 0) (.slice none 0 0) 24 (Pa.tk l 0).at') (by simp [results, Try.results5, go_sem, toldVal, *]) rfl (told_fault (below_five ONE4.out.bel _ _ _ _ _) HFIN.out)
                        · by_cases hv : (Pa.tk l0 0).num ≤ (Pa.tk l 1).num
                          · have hfin : Pa.raw g n = .error (24, (Pa.tk l 1).at') := by
                              rw [HGO3.out]
                              refine Pa.go_error ?_
                              unfold Pa.line Pa.edge
                              rw [if_pos rfl, if_neg HNE26.out, if_neg (by omega), if_neg hu, if_pos hv]
                            have HFIN := Nu.hid hfin
                            clear hfin
                            go_wp2_with (go_at_call 9; refine (fault_any _ _ _).mono ?_; rintro e w4 ⟨rfl, hb4⟩; have one4 := ONEX.out.below hb4 (Nat.le_refl _); obtain ⟨r0, r1, r2, r3, r4, r5⟩ := five_cells one4.res; have ONE4 := Nu.hid one4; unfold toldVal; clear hb4 one4)
                            exact bodyPost_ret (v := toldVal 0 (.slice none 0 0) (.slice none 0 0) 24 (Pa.tk l 1).at') (by simp [results, Try.results5, go_sem, toldVal, *]) rfl (told_fault (below_five ONE4.out.bel _ _ _ _ _) HFIN.out)
                          · have hgo4 : Pa.raw g n = Pa.go ⟨true, (Pa.tk l0 0).num, (Pa.tk l0 1).num, ps ++ [((Pa.tk l 0).num, (Pa.tk l 1).num)]⟩ todo n := by
                              rw [HGO3.out]
                              refine Pa.go_ok ?_
                              unfold Pa.line Pa.edge
                              rw [if_pos rfl, if_neg HNE26.out, if_neg (by omega), if_neg hu, if_neg hv]
                            have HGO4 := Nu.hid hgo4
                            clear hgo4
                            have hpb : zu.length ≤ 16777217 := by have := HZUL.out; have := HPL.out; have := HKD.out; omega
                            have hpb' : zv.length ≤ 16777217 := by have := HZVL.out; have := HPL.out; have := HKD.out; omega
                            go_wp2_with (at_builtin; refine wpList_append_own_at _ rfl _ _ 24 rfl (W.heap.size + 1) 3 i1 (.int .i64 0) 1 8 Try.underlying24 ii iz0 iz1 iz2 rfl (by decide) _ _ _ rfl (World.ownsRow.alloc TIX.out.us _) ⟨X.heap.size, 0, none⟩ 1 1 [.int .i64 (Pa.tk l 0).num] rfl rfl (new_int X _ rfl _) (by simp [Value.oneCell']) (by unfold maxLen; omega) (by omega) (by simp; omega) ?_; refine Hid.out ?_)
                            refine Nu.hid ?_
                            intro U' w5 hown' hg _ hat
                            have ti5 := TIX.out.pushU hown' hg hat
                            have hbt : w5.heap[W.heap.size]? = _ := (app_other hg hXs (fun e => by have := (TIX.out.us.lt _ e.symm).1; omega)).trans TIX.out.told
                            have hbv : w5.heap[wr.heap.size]? = _ := (app_other hg (by have := XS.out; omega) (fun e => by have := (HTI.out.us.lt _ e.symm).2; omega)).trans BL0.out
                            obtain ⟨t0, t1, t2, t3, t4, t5⟩ := five_cells hbt
                            obtain ⟨u10, u11, u12, u13⟩ := four_cells hbv
                            have hs5 : X.heap.size + 1 ≤ w5.heap.size := by have := hg.size; simpa using this
                            have n3 : W.heap.size < w5.heap.size := by omega
                            have n4 : wr.heap.size < w5.heap.size := by have := XS.out; omega
                            obtain ⟨ua', uc', rfl, -⟩ := OwnInts.form (zs := zu ++ [(Pa.tk l 0).num]) (by unfold OwnInts; rw [List.map_append, List.length_append]; exact hown')
                            have TI5 := Nu.hid ti5
                            have hul : (zu ++ [(Pa.tk l 0).num]).length = zu.length + 1 := by simp
                            rw [hul] at TI5 ⊢
                            clear hown' hg hat ti5 hbt hbv hul
                            go_wp2_with (at_builtin; refine wpList_append_own_at _ rfl _ _ 24 rfl (W.heap.size + 1) 3 i1 (.int .i64 0) 1 8 Try.underlying24 ii iz0 iz1 iz2 rfl (by decide) _ _ _ rfl (World.ownsRow.alloc TI5.out.vs _) ⟨w5.heap.size, 0, none⟩ 1 1 [.int .i64 (Pa.tk l 1).num] rfl rfl (new_int _ _ (by simp) _) (by simp [Value.oneCell']) (by unfold maxLen; omega) (by omega) (by simp; omega) ?_; refine Hid.out ?_)
                            refine Nu.hid ?_
                            intro V' w6 hown6 hg6 _ hat6
                            have ti6 := TI5.out.pushV hown6 hg6 (by simpa using hat6)
                            have hb6 : w6.heap[W.heap.size]? = _ := (app_other hg6 (by simp; omega) (fun e => by have := (TI5.out.vs.lt _ e.symm).1; omega)).trans TI5.out.told
                            obtain ⟨t0, t1, t2, t3, t4, t5⟩ := five_cells hb6
                            obtain ⟨va', vc6, rfl, -⟩ := OwnInts.form (zs := zv ++ [(Pa.tk l 1).num]) (by unfold OwnInts; rw [List.map_append, List.length_append]; exact hown6)
                            have TI6 := Nu.hid ti6
                            have hvl : (zv ++ [(Pa.tk l 1).num]).length = zv.length + 1 := by simp
                            rw [hvl] at TI6 ⊢
                            clear hown6 hg6 hat6 ti6 hb6 hvl
                            go_wp2
                            go_roundw
                            case rel =>
                              refine ⟨done ++ [l], todo, ps ++ [((Pa.tk l 0).num, (Pa.tk l 1).num)], _, _, zu ++ [(Pa.tk l 0).num], zv ++ [(Pa.tk l 1).num], k + 1, by rw [HREST.out]; simp, by rw [HZU.out]; simp, by rw [HZV.out]; simp, by rw [HKD.out]; simp, by go_num, by have := HPL.out; simp; omega, by have := HPL.out; have := HKD.out; simp; omega, HGO4.out, TI6.out⟩
                            case measure => simp [intOf]; omega
                    · have j2' : ((l.length : Int) != 2) = true := by simp; omega
                      have hfin : Pa.raw g n = .error (23, (Pa.tk l 0).at') := by
                        rw [HGO3.out]
                        refine Pa.go_error ?_
                        unfold Pa.line Pa.edge
                        rw [if_pos rfl, if_neg hne26, if_pos hl2]
                      have HFIN := Nu.hid hfin
                      clear hfin hrest hdl hpl hkd hl hlx
                      go_wp2_with (go_at_call 9; refine (fault_any _ _ _).mono ?_; rintro e w4 ⟨rfl, hb4⟩; have one4 := ONE3.out.below hb4 (Nat.le_refl _); obtain ⟨r0, r1, r2, r3, r4, r5⟩ := five_cells one4.res; have ONE4 := Nu.hid one4; unfold toldVal; clear hb4 one4)
                      exact bodyPost_ret (v := toldVal 0 (.slice none 0 0) (.slice none 0 0) 23 (Pa.tk l 0).at') (by simp [results, Try.results5, go_sem, toldVal, *]) rfl (told_fault (below_five ONE4.out.bel _ _ _ _ _) HFIN.out)
        · have j2 : ((l0.length : Int) != 2) = true := by simp; omega
          have hfin : Pa.raw g n = .error (20, (Pa.tk l0 0).at') := by
            rw [HRAW.out]
            exact Pa.go_error (by unfold Pa.line Pa.header; simp [Pa.s0, h2])
          have HFIN := Nu.hid hfin
          clear hfin
          go_wp2_with (go_at_call 9; refine (fault_any _ _ _).mono ?_; rintro e w3 ⟨rfl, hb3⟩; have one3 := ONE2.out.below hb3 (Nat.le_refl _); obtain ⟨r0, r1, r2, r3, r4, r5⟩ := five_cells one3.res; have ONE3 := Nu.hid one3; unfold toldVal; clear hb3 one3)
          exact bodyPost_ret (v := toldVal 0 (.slice none 0 0) (.slice none 0 0) 20 (Pa.tk l0 0).at') (by simp [results, Try.results5, go_sem, toldVal, *]) rfl (told_fault (below_five ONE3.out.bel _ _ _ _ _) HFIN.out)

end Go.Proofs.Ytmcbinooihkjhaa
