/-
  Proved: for every graph, list and What the law EditMemory answers true, and what is handed in reads afterwards as before. No condition.
-/
import Derived.Test.YtdkckdbpbdhoaaaEdMl
import Derived.Test.YtdkckdbpbdhoaaaMgG
namespace Go.Proofs.Ytdkckdbpbdhoaaa
open Go.ChangeShapes Go.WideShapes Go.ChangeAt Go.RowKit
namespace lawEM

theorem three_cells {w : World} {b : Nat} {t : TypeId} {x y z : Value} (h : w.heap[b]? = some (.cells #[x, y, z] t (0, 0))) : w.cell? ⟨b, 0, none⟩ = some x ∧ w.cell? ⟨b, 1, none⟩ = some y ∧ w.cell? ⟨b, 2, none⟩ = some z := ⟨by simp [World.cell?, h], by simp [World.cell?, h], by simp [World.cell?, h]⟩

/-- A list is copied into one with room. -/
theorem wpList_spareI {W : World} {ops : Array Oper} {rest : List Oper} {o : Oper} {a : Act} {Q : Exit → Act → World → Prop} (hgd : o.guard = none) (s x : Operand)
    (ho : o.op = .call { callee := .builtin .append, args := #[s, x], argTypes := #[40, 40] }) (B g cap : Nat) (hs : a.eval s = .slice (some ⟨g, 0, none⟩) 0 cap) (hown : W.ownsRow B 3 1 (.slice (some ⟨g, 0, none⟩) 0 cap) 0 [])
    (xo : Option Addr) (q xc : Nat) (l : List Int) (hx : a.eval x = .slice xo q xc) (hl : Lst W xo q xc l) (hroom : q ≤ cap)
    (h : ∀ w', w'.ownsRow B 3 1 (.slice (some ⟨g, 0, none⟩) q cap) q (l.map (Value.int .i64)) → W.grownBy w' (some g) → wpList Try.prog ops Q rest (a.put o.dst (.slice (some ⟨g, 0, none⟩) q cap)) w') : wpList Try.prog ops Q (o :: rest) a W := by
  obtain ⟨iN, hiN, hN0, hN1, hN2⟩ := info_parts Try.infoNum
  cases xo with
  | none =>
    obtain ⟨rfl, rfl⟩ := hl.none rfl
    have h0 : l = [] := List.length_eq_zero_iff.1 hl.len
    subst h0
    exact wpList_append_own_none hgd s x 40 ho B 3 iN 1 Try.underlying40 hiN _ 0 [] hs hown hx (h W hown (World.grownBy.refl _ _))
  | some y =>
    refine wpList_append_own_spare W hgd s x 40 ho B 3 iN 1 Try.underlying40 hiN hN1 g 0 cap [] hs hown y q xc (l.map (Value.int .i64)) hx (by rw [List.length_map, hl.len]; omega) (fun j u hj => ?_) (fun u hu => ?_) (by omega) (fun w' h1 h2 => ?_)
    · rw [List.getElem?_map] at hj
      obtain ⟨z, hz, rfl⟩ := Option.map_eq_some_iff.1 hj
      obtain ⟨b, o', e, hc⟩ := hl.ints j z hz
      cases e
      have ea : ((⟨b, o', none⟩ : Addr).add j) = ⟨b, o' + j, none⟩ := by
        by_cases h0 : j = 0 <;> simp [Addr.add, h0]
      rw [ea]
      exact hc
    · obtain ⟨z, _, rfl⟩ := List.mem_map.1 hu
      rfl
    · rw [Nat.zero_add] at h1 ⊢
      exact h w' (by simpa using h1) h2

set_option maxRecDepth 100000 in
set_option maxHeartbeats 32000000 in
theorem walk (n : Int) (ao : Option Addr) (ca : Nat) (es : List (Int × Int)) (xo : Option Addr) (q xc : Nat) (zs : List Int) (kk : Int) (xx : Int × Int) (w : World) (_ : -9223372036854775808 ≤ n ∧ n ≤ 9223372036854775807) (hqi : PairsIn w ao es.length ca es) (hle : es.length * 16 ≤ 140737488351232) (hz : IsRow .i64 8 w xo q xc zs) (_ : -9223372036854775808 ≤ kk ∧ kk ≤ 9223372036854775807) (_ : In64 xx) :
    Calls Try.prog 8 #[.agg #[.int .i64 n, .slice ao es.length ca], .slice xo q xc, .agg #[.int .i64 kk, .int .i64 xx.1, .int .i64 xx.2]] w fun e w' => e = .returned (.bool true) ∧ Below w.heap.size w w' := by
  obtain ⟨x1, x2⟩ := xx
  dsimp only
  have hfw := hz.few
  have hlst := hz.lst
  obtain ⟨l, hl⟩ : ∃ l, zs.take q = l := ⟨_, rfl⟩
  rw [hl] at hlst
  have HLST := Nu.hid hlst
  have HAT := Nu.hid hqi.hat
  have HNIL := Nu.hid hqi.hnil
  have hel : es.length ≤ 8796093022000 := by omega
  have HBX0 : Hid (Below w.heap.size w ((w.alloc (.cells #[.int .i64 n, .slice ao es.length ca] 24)).alloc (.cells #[.int .i64 kk, .int .i64 x1, .int .i64 x2] 55))) := ((Below.refl _ _).alloc (Nat.le_refl _) _).alloc (by simp) _
  have HGX0 : Hid (((w.alloc (.cells #[.int .i64 n, .slice ao es.length ca] 24)).alloc (.cells #[.int .i64 kk, .int .i64 x1, .int .i64 x2] 55)).heap[w.heap.size]? = some (.cells #[.int .i64 n, .slice ao es.length ca] 24 (0, 0))) := blk_alloc (heap_alloc_new w _) _
  have HWX0 : Hid (((w.alloc (.cells #[.int .i64 n, .slice ao es.length ca] 24)).alloc (.cells #[.int .i64 kk, .int .i64 x1, .int .i64 x2] 55)).heap[w.heap.size + 1]? = some (.cells #[.int .i64 kk, .int .i64 x1, .int .i64 x2] 55 (0, 0))) := by
    have := heap_alloc_new (w.alloc (.cells #[.int .i64 n, .slice ao es.length ca] 24)) (.cells #[.int .i64 kk, .int .i64 x1, .int .i64 x2] 55)
    rw [World.size_alloc] at this
    exact this
  obtain ⟨iE, hiE, hE0, hE1, hE2⟩ := info_parts Try.infoEdge
  obtain ⟨iN, hiN, hN0, hN1, hN2⟩ := info_parts Try.infoNum
  clear hqi hz hl hlst
  go_enter Try.func8, Try.ntmps8
  go_wp2_with (go_at_call 9; refine (fixed14_any _).mono ?_; rintro e w1 ⟨rfl, hb⟩; refine Hid.out ?_)
  refine Nu.hid ?_
  have HB1 := Nu.hid (HBX0.out.trans (hb.mono HBX0.out.size))
  have HG1 := Nu.hid (blk_later HGX0.out hb)
  have HW1 := Nu.hid (blk_later HWX0.out hb)
  clear hb HBX0 HGX0 HWX0
  go_upto_region 3 with fail
  go_cut [7, 8] from 53 to 57 (fun p r wr => p = .int .i64 kk ∧ ∃ X, r = .pointer (some ⟨X, 0, none⟩) ∧ wr.heap[X]? = some (.cells #[.int .i64 x1, .int .i64 x2] 26 (0, 0)) ∧ Below w1.heap.size w1 wr)
  case first =>
    obtain ⟨y0, y1, y2⟩ := three_cells HW1.out
    have hsw := lt_of_block HW1.out
    go_wp2_with fail
    go_big_region
    go_wp2
    go_meet
    exact ⟨rfl, _, rfl, heap_new_drew w1 _, ((Below.refl _ _).alloc (Nat.le_refl _) _).drew⟩
  case rest =>
  obtain ⟨rfl, X, rfl, hX, hb⟩ := hcut
  obtain ⟨w2, rfl⟩ : ∃ W, W = wc := ⟨_, rfl⟩
  have HB2 := Nu.hid (HB1.out.trans (hb.mono HB1.out.size))
  have HG2 := Nu.hid (blk_later HG1.out hb)
  have HX2 := Nu.hid hX
  clear hb hX HB1 HG1 HW1
  obtain ⟨m3, hm3⟩ : ∃ m3, m3 = es.length + 3 := ⟨_, rfl⟩
  have hm3i : (es.length : Int) + 3 = (m3 : Int) := by omega
  have hw3 : IntKind.i64.wrap ((es.length : Int) + 3) = (m3 : Int) := by rw [IntKind.wrap_i64]; omega
  have HM3 := Nu.hid hm3
  clear hm3
  go_upto_region 4 with fail
  go_cut [9] from 57 to 69 (fun p wr => ∃ g, p = .slice (some ⟨g, 0, none⟩) (es.length + 2) m3 ∧ wr.ownsRow w2.heap.size 26 2 (.slice (some ⟨g, 0, none⟩) (es.length + 2) m3) (es.length + 2) (flatE es ++ [.int .i64 71, .int .i64 72, .int .i64 73, .int .i64 74]) ∧ Below w2.heap.size w2 wr)
  case first =>
    have hm3 := HM3.out
    go_wp2_with fail
    refine wp_region_any (by kernel_rfl) ?_
    have hbd : Below w2.heap.size w2 { w2 with drawn := w2.drawn + 1 } := (Below.refl _ _).drew
    refine AnyOrd.anyV (RoC w2 (.pointer (some ⟨w.heap.size, 1, none⟩)) (.slice ao es.length ca) es es.length m3) 359 rfl (by kernel_rfl) (fun ρ => RoC.start hbd) ?_ ?_
    · intro j o' Ls ρ W ev ho hLi hC haft hdc he1 he2 hec hef
      have hc : j = 0 ∨ j = 1 ∨ j = 2 ∨ j = 3 ∨ j = 4 ∨ j = 5 ∨ j = 6 ∨ j = 7 ∨ j = 8 ∨ j = 9 ∨ j = 10 ∨ j = 11 ∨ j = 12 := by
        have : j < 13 := (Array.getElem?_eq_some_iff.1 ho).1
        omega
      have hno : ∀ u, (Ls u = true → Ls j = true) → Ls u = false := fun u h => by
        cases h' : Ls u with
        | false => rfl
        | true =>
          have := h h'
          rw [hLi] at this
          cases this
      have hlow := hC.low
      obtain ⟨-, g1, -⟩ := pair_cells (blk_later HG2.out hlow)
      have hed := HAT.out.later (HB2.out.trans (hlow.mono HB2.out.size))
      rcases hc with rfl | rfl | rfl | rfl | rfl | rfl | rfl | rfl | rfl | rfl | rfl | rfl | rfl <;> obtain rfl := Option.some.inj ho
      · have e1 : ev (.tmp 3) = .pointer (some ⟨w.heap.size, 0, none⟩) := he2 3 (by kernel_rfl)
        exact AnyOrd.gives_value (v := .pointer (some ⟨w.heap.size, 1, none⟩)) (w' := W) (by simp [execOp, go_sem, e1]) hC.op0
      · have h0 : Ls 0 = true := haft ⟨0, .data⟩ (by simp) rfl
        have hC' := hC
        obtain ⟨_, _, S⟩ := hC
        have e1 := (he1 0 57 (by omega) rfl (by decide)).trans (S.v0 h0)
        exact AnyOrd.gives_value (v := .slice ao es.length ca) (w' := W) (by simp [execOp, go_sem, e1, g1]) hC'.op1
      · have h1 : Ls 1 = true := haft ⟨1, .data⟩ (by simp) rfl
        have hC' := hC
        obtain ⟨_, _, S⟩ := hC
        have e1 := (he1 1 58 (by omega) rfl (by decide)).trans (S.v1 h1)
        exact AnyOrd.gives_value (v := .int .i64 (es.length : Int)) (w' := W) (by simp [execOp, go_sem, e1]) hC'.op2
      · have h2 : Ls 2 = true := haft ⟨2, .data⟩ (by simp) rfl
        have hC' := hC
        obtain ⟨_, _, S⟩ := hC
        have e1 := (he1 2 59 (by omega) rfl (by decide)).trans (S.v2 h2)
        exact AnyOrd.gives_value (v := .int .i64 (m3 : Int)) (w' := W) (by simp [execOp, go_sem, e1, hec, hw3]) hC'.op3
      · have h3 : Ls 3 = true := haft ⟨3, .data⟩ (by simp) rfl
        have hC' := hC
        obtain ⟨_, _, S⟩ := hC
        have e1 := (he1 3 60 (by omega) rfl (by decide)).trans (S.v3 h3)
        have n7 : Ls 7 = false := hno 7 fun h => hdc 7 _ rfl h ⟨4, .data⟩ (by simp) rfl
        have n11 : Ls 11 = false := hno 11 fun h => hdc 7 _ rfl (hdc 11 _ rfl h ⟨7, .data⟩ (by simp) rfl) ⟨4, .data⟩ (by simp) rfl
        have n12 : Ls 12 = false := hno 12 fun h => hdc 12 _ rfl h ⟨4, .phase⟩ (by simp) rfl
        obtain ⟨w', hrun, r1, r2⟩ := run_make_own (P := Try.prog) W w2.heap.size 22 26 iE (.agg #[.int .i64 0, .int .i64 0]) 2 Try.underlying22 hiE hE0 hE1 .i64 .i64 m3 (by rw [hE2]; omega) (by unfold maxLen; omega) hlow.size
        exact AnyOrd.gives_value (v := .slice (some ⟨W.heap.size, 0, none⟩) 0 m3) (w' := w') (by simp [execOp, e1, hec, hrun, Result.andThen]) (hC'.op4 n7 n11 n12 r2 r1)
      · have e1 : ev (.tmp 3) = .pointer (some ⟨w.heap.size, 0, none⟩) := he2 3 (by kernel_rfl)
        exact AnyOrd.gives_value (v := .pointer (some ⟨w.heap.size, 1, none⟩)) (w' := W) (by simp [execOp, go_sem, e1]) hC.op5
      · have h5 : Ls 5 = true := haft ⟨5, .data⟩ (by simp) rfl
        have hC' := hC
        obtain ⟨_, _, S⟩ := hC
        have e1 := (he1 5 62 (by omega) rfl (by decide)).trans (S.v5 h5)
        exact AnyOrd.gives_value (v := .slice ao es.length ca) (w' := W) (by simp [execOp, go_sem, e1, g1]) hC'.op6
      · have h4 : Ls 4 = true := haft ⟨4, .data⟩ (by simp) rfl
        have h6 : Ls 6 = true := haft ⟨6, .data⟩ (by simp) rfl
        have n11 : Ls 11 = false := hno 11 fun h => hdc 11 _ rfl h ⟨7, .data⟩ (by simp) rfl
        have n12 : Ls 12 = false := hno 12 fun h => hdc 12 _ rfl h ⟨7, .phase⟩ (by simp) rfl
        obtain ⟨g, v4, v6, hown, hnext⟩ := hC.op7 h4 h6 hLi n11 n12
        have e1 := (he1 4 61 (by omega) rfl (by decide)).trans v4
        have e2 := (he1 6 63 (by omega) rfl (by decide)).trans v6
        cases ao with
        | none =>
          obtain ⟨rfl, rfl⟩ := HNIL.out rfl
          have hrun := run_append_owned_none (P := Try.prog) (w := W) w2.heap.size 22 22 26 iE 2 Try.underlying22 hiE _ 0 [] hown
          exact AnyOrd.gives_value (v := .slice (some ⟨g, 0, none⟩) 0 m3) (w' := W) (by simp [execOp, resolve, invoke, builtin, e1, e2, hrun, Result.andThen]) (hnext W (World.grownBy.refl _ _) hown)
        | some y =>
          obtain ⟨w', hrun, r1, r2⟩ := run_append_own_spare (P := Try.prog) W w2.heap.size 22 22 26 iE 2 Try.underlying22 hiE hE1 g 0 m3 [] hown y es.length ca (flatE es) (flatE_length es) (edge_news' hed) (fun u hu => by
            obtain ⟨p, _, hp⟩ := List.mem_flatMap.1 hu
            simp only [List.mem_cons, List.not_mem_nil, or_false] at hp
            rcases hp with rfl | rfl <;> rfl) (by omega)
          rw [Nat.zero_add] at hrun r1
          exact AnyOrd.gives_value (v := .slice (some ⟨g, 0, none⟩) es.length m3) (w' := w') (by simp [execOp, resolve, invoke, builtin, e1, e2, hrun, Result.andThen]) (hnext w' r2 (by simpa using r1))
      · exact AnyOrd.gives_value (v := .agg #[.int .i64 71, .int .i64 72]) (w' := W) (by simp [execOp, go_sem, hec]) hC.op8
      · exact AnyOrd.gives_value (v := .agg #[.int .i64 73, .int .i64 74]) (w' := W) (by simp [execOp, go_sem, hec]) hC.op9
      · have h8 : Ls 8 = true := haft ⟨8, .data⟩ (by simp) rfl
        have h9 : Ls 9 = true := haft ⟨9, .data⟩ (by simp) rfl
        have hC' := hC
        obtain ⟨_, _, S⟩ := hC
        have e1 := (he1 8 65 (by omega) rfl (by decide)).trans (S.v8 h8)
        have e2 := (he1 9 66 (by omega) rfl (by decide)).trans (S.v9 h9)
        have n11 : Ls 11 = false := hno 11 fun h => hdc 11 _ rfl h ⟨10, .data⟩ (by simp) rfl
        exact AnyOrd.gives_value (v := .slice (some ⟨W.heap.size, 0, none⟩) 2 2) (w' := W.alloc (.cells #[.int .i64 71, .int .i64 72, .int .i64 73, .int .i64 74] 26)) (by simp [execOp, go_sem, e1, e2]) (hC'.op10 n11)
      · have h7 : Ls 7 = true := haft ⟨7, .data⟩ (by simp) rfl
        have h10 : Ls 10 = true := haft ⟨10, .data⟩ (by simp) rfl
        have h4 : Ls 4 = true := hdc 7 _ rfl h7 ⟨4, .data⟩ (by simp) rfl
        have n12 : Ls 12 = false := hno 12 fun h => hdc 12 _ rfl h ⟨11, .data⟩ (by simp) rfl
        obtain ⟨g, b, v7, v10, hown, hblk, hnext⟩ := hC.op11 h4 h7 h10 hLi n12
        have e1 := (he1 7 64 (by omega) rfl (by decide)).trans v7
        have e2 := (he1 10 67 (by omega) rfl (by decide)).trans v10
        obtain ⟨w', hrun, r1, r2⟩ := run_append_own_spare (P := Try.prog) W w2.heap.size 22 22 26 iE 2 Try.underlying22 hiE hE1 g es.length m3 (flatE es) hown ⟨b, 0, none⟩ 2 2 [.int .i64 71, .int .i64 72, .int .i64 73, .int .i64 74] rfl (World.news_of_block hblk) (by simp [Value.oneCell']) (by omega)
        exact AnyOrd.gives_value (v := .slice (some ⟨g, 0, none⟩) (es.length + 2) m3) (w' := w') (by simp [execOp, resolve, invoke, builtin, e1, e2, hrun, Result.andThen]) (hnext w' r2 r1)
      · have h11 : Ls 11 = true := haft ⟨11, .data⟩ (by simp) rfl
        have e1 : ev (.tmp 68) = ρ 11 := he1 11 68 (by omega) rfl (by decide)
        exact AnyOrd.gives_value (v := ρ 11) (w' := W) (by simp [execOp, go_sem, e1]) (hC.op12 h11)
    · intro Ls ρ W hall hC
      obtain ⟨g, e12, hown, hbw⟩ := hC.done hall
      simp only [AnyOrd.canon, AnyOrd.dst, Array.size, List.length_cons, List.length_nil]
      simp [Act.put, e12]
      clear hall hC e12
      go_wp2
      go_meet
      exact ⟨_, rfl, hown, hbw⟩
  case rest =>
  obtain ⟨gr, rfl, hroom, hb⟩ := hcut
  obtain ⟨w3, rfl⟩ : ∃ W, W = wc := ⟨_, rfl⟩
  have HB3 := Nu.hid (HB2.out.trans (hb.mono HB2.out.size))
  have HG3 := Nu.hid (blk_later HG2.out hb)
  have HX3 := Nu.hid (blk_later HX2.out hb)
  have HRM := Nu.hid hroom
  clear hb hroom HB2 HG2 HX2 hw3 hm3i
  obtain ⟨m2, hm2⟩ : ∃ m2, m2 = es.length + 2 := ⟨_, rfl⟩
  rw [← hm2] at HRM ⊢
  have HM2 := Nu.hid hm2
  have j0 : (0 : Int) ≤ (es.length : Int) := by omega
  have j1 : (es.length : Int) ≤ (m2 : Int) := by omega
  have j2 : (m2 : Int) ≤ (m3 : Int) := by have := HM3.out; omega
  have j3 : (es.length : Int) ≤ (m3 : Int) := by omega
  clear hm2
  go_upto_region 5 with fail
  go_cut [10] from 69 to 77 (fun p wr => ∃ M, p = .pointer (some ⟨M, 0, none⟩) ∧ wr.heap[M]? = some (.cells #[.int .i64 n, .slice (some ⟨gr, 0, none⟩) es.length m3] 24 (0, 0)) ∧ Below w3.heap.size w3 wr)
  case first =>
    obtain ⟨g0, g1, -⟩ := pair_cells HG3.out
    have hsg := lt_of_block HG3.out
    go_wp2_with fail
    go_big_region
    go_wp2
    go_meet
    exact ⟨_, rfl, heap_new_drew w3 _, ((Below.refl _ _).alloc (Nat.le_refl _) _).drew⟩
  case rest =>
  obtain ⟨M, rfl, hMx, hb⟩ := hcut
  obtain ⟨w4, rfl⟩ : ∃ W, W = wc := ⟨_, rfl⟩
  have HB4 := Nu.hid (HB3.out.trans (hb.mono HB3.out.size))
  have HG4 := Nu.hid (blk_later HG3.out hb)
  have HX4 := Nu.hid (blk_later HX3.out hb)
  have HM4 := Nu.hid hMx
  have HRM4 := Nu.hid (row_later HRM.out hb)
  have HBA := Nu.hid hb
  clear hb hMx HB3 HG3 HX3 HRM
  obtain ⟨q2, hq2⟩ : ∃ q2, q2 = q + 2 := ⟨_, rfl⟩
  have hq2i : (q : Int) + 2 = (q2 : Int) := by omega
  have hwq2 : IntKind.i64.wrap ((q : Int) + 2) = (q2 : Int) := by rw [IntKind.wrap_i64]; omega
  have hq2b : q2 ≤ 17592186043906 := by omega
  have hqq : q ≤ q2 := by omega
  have HQ2 := Nu.hid hq2
  have HL4 := Nu.hid (HLST.out.later HB4.out)
  clear hq2 hq2i
  go_wp2_with (at_make; refine wpList_make_own _ rfl _ _ 40 rfl w4.heap.size 3 iN (.int .i64 0) 1 Try.underlying40 hiN hN0 hN1 _ _ _ q2 rfl rfl rfl (by rw [hN2]; omega) (by unfold maxLen; omega) (Nat.le_refl _) ?_; refine Hid.out ?_)
  refine Nu.hid ?_
  intro w5 hrow5 hg5
  have HROW5 := Nu.hid hrow5
  have hb5 : Below w4.heap.size w4 w5 := (Below.refl _ _).grown hg5 (Nat.le_refl _) (fun j hj => by cases hj)
  have HL5 := Nu.hid (HL4.out.later hb5)
  have HB45 := Nu.hid hb5
  have hs5 := hb5.size
  obtain ⟨gn, hgn⟩ : ∃ gn, gn = w4.heap.size := ⟨_, rfl⟩
  rw [← hgn] at HROW5 ⊢
  have HGN := Nu.hid hgn
  clear hrow5 hg5 hb5 HL4 hgn
  go_wp2_with (at_builtin; refine wpList_spareI rfl _ _ rfl gn gn q2 rfl HROW5.out xo q xc l rfl HL5.out hqq ?_; refine Hid.out ?_)
  refine Nu.hid ?_
  intro w6 hrow6 hg6
  have HROW6 := Nu.hid hrow6
  have hb6 : Below w4.heap.size w5 w6 := (Below.refl _ _).grown hg6 hs5 (fun j hj => by cases hj; rw [HGN.out]; exact Nat.le_refl _)
  have HB46 := Nu.hid (HB45.out.trans hb6)
  have hs6 := hb6.size
  clear hrow6 hg6 hb6 HROW5 HL5
  go_wp2_with (at_builtin; refine wpList_append_own_spare _ rfl _ _ 40 rfl gn 3 iN 1 Try.underlying40 hiN hN1 gn q q2 _ rfl (World.ownsRow.alloc HROW6.out _) ⟨w6.heap.size, 0, none⟩ 2 2 [.int .i64 (-91), .int .i64 (-92)] rfl rfl (World.news_of_block (heap_alloc_new _ _)) (by simp [Value.oneCell']) (by have := HQ2.out; omega) ?_; refine Hid.out ?_)
  refine Nu.hid ?_
  intro w7 hrow7 hg7
  rw [← HQ2.out] at hrow7 ⊢
  have hb7 : Below w4.heap.size w6 w7 := ((Below.refl w4.heap.size w6).alloc (by omega) _).grown hg7 (by simp; omega) (fun j hj => by cases hj; rw [HGN.out]; exact Nat.le_refl _)
  have HB47 := Nu.hid (HB46.out.trans hb7)
  have HROW7 := Nu.hid hrow7
  have k0 : (0 : Int) ≤ (q : Int) := by omega
  have k1 : (q : Int) ≤ (q2 : Int) := by omega
  have k2 : (q2 : Int) ≤ (q2 : Int) := by omega
  clear hrow7 hg7 hb7 hs5 hs6 HROW6 HB45 HB46
  have hkeep : KeepM w.heap.size M gr gn m3 q2 n ao xo ca es l w7 := by
    have hb := HB47.out
    obtain ⟨g0, g1, -⟩ := pair_cells (blk_later HG4.out hb)
    obtain ⟨h0, h1, -⟩ := pair_cells (blk_later HM4.out hb)
    have hlow := HB4.out.trans (hb.mono HB4.out.size)
    have hrm := row_later HRM4.out hb
    have hc := World.ownsRow.cells hrm (g := gr) rfl
    simp only [addrE] at hc
    have hcn := World.ownsRow.cells HROW7.out (g := gn) rfl
    simp only [addrE] at hcn
    have hfl := flatE_length es
    have hll := HLST.out.len
    have ap : ∀ i u, [Value.int .i64 71, .int .i64 72, .int .i64 73, .int .i64 74][i]? = some u → (flatE es ++ [Value.int .i64 71, .int .i64 72, .int .i64 73, .int .i64 74])[es.length * 2 + i]? = some u := fun i u h => by
      rw [List.getElem?_append_right (by omega), hfl, show es.length * 2 + i - es.length * 2 = i by omega]
      exact h
    refine ⟨g0, g1, h0, h1, HAT.out.later hlow, fun j p hj => ⟨gr, 0, rfl, ?_, ?_⟩, hc _ _ (ap 0 _ rfl), hc _ _ (ap 1 _ rfl), ?_, ?_, fun j x hj => ⟨gn, 0, rfl, ?_⟩, HLST.out.ints.later hlow, ?_, ?_⟩
    · have hjl := (List.getElem?_eq_some_iff.1 hj).1
      rw [Nat.zero_add]
      exact hc _ _ (by rw [List.getElem?_append_left (by omega)]; exact (flatE_at es j p hj).1)
    · have hjl := (List.getElem?_eq_some_iff.1 hj).1
      rw [Nat.zero_add]
      exact hc _ _ (by rw [List.getElem?_append_left (by omega)]; exact (flatE_at es j p hj).2)
    · have := hc _ _ (ap 2 _ rfl)
      rwa [show es.length * 2 + 2 = (es.length + 1) * 2 by omega] at this
    · have := hc _ _ (ap 3 _ rfl)
      rwa [show es.length * 2 + 3 = (es.length + 1) * 2 + 1 by omega] at this
    · have hjl := (List.getElem?_eq_some_iff.1 hj).1
      rw [Nat.zero_add]
      exact hcn _ _ (by rw [List.getElem?_append_left (by simp; omega), List.getElem?_map, hj]; rfl)
    · exact hcn _ _ (by rw [List.getElem?_append_right (by simp), List.length_map, Nat.sub_self]; rfl)
    · exact hcn _ _ (by rw [List.getElem?_append_right (by simp), List.length_map, show l.length + 1 - l.length = 1 by omega]; rfl)
  have HKEEP := Nu.hid hkeep
  have hX7 := blk_later HX4.out HB47.out
  have HX7 := Nu.hid hX7
  have HB7 := Nu.hid (HB4.out.trans (HB47.out.mono HB4.out.size))
  clear hkeep hX7
  repeat (first | exact rounds HKEEP.out HX7.out HM2.out HLST.out.len HQ2.out hel hfw HB7.out | go_step)

set_option maxRecDepth 100000 in
/-- What the walk gives, for every argument and every world. -/
theorem contract (H : Type) (enc : TypeId × Value → H) (W : World) (base : Nat) (args : Array Value) (ds gs : List (DataW H)) (before : List MemPlace)
    (hval : ∀ (j : Nat) t v, Try.f8.params[j]? = some t → args[j]? = some v → Value.okWide Try.prog W .any base t v)
    (hW : DataW.Whole enc Try.prog Try.f8.params.toList Rows.editMemorySpec.vars false W args.toList ds gs before)
    (hsz : (DataW.weightsEach Try.prog (Try.f8.params.toList ++ (OpenSpec.ofChange Rows.editMemorySpec).bare.plain.varTypes Try.prog) (ds ++ gs)).all (· ≤ reachBytes) = true)
    :
    Calls Try.prog 8 args W fun e W' => ∃ v, e = .returned v ∧ Rows.editMemorySpec.post enc Try.prog Try.f8 false true false false W args v W' := by
  have hW' := hW
  obtain ⟨p, q, hA0, hV, rfl, hfz, hnd⟩ := hW
  have hA : DataW.TrodAll enc Try.prog W 0 (fun _ => true) true Try.f8.params.toList args.toList ds p := hA0
  rw [Try.params8] at hA hval hsz
  obtain ⟨v0, vs0, d0, ds0, p0, q0, hargs, rfl, rfl, h0, r0⟩ := trodAll_cons hA
  obtain ⟨v1, vs1, d1, ds1, p1, q1, rfl, rfl, rfl, h1, r1⟩ := trodAll_cons r0
  obtain ⟨v2, vs2, d2, ds2, p2, q2, rfl, rfl, rfl, h2, r2⟩ := trodAll_cons r1
  obtain ⟨rfl, rfl, rfl⟩ := trodAll_nil r2
  obtain rfl : args = #[v0, v1, v2] := by cases args; simp_all
  obtain ⟨rfl, rfl⟩ := trodVars_none hV
  have k0 := h0
  have lt0 : ∀ x ∈ p0, x.block < W.heap.size := by obtain ⟨m, hm⟩ := k0; exact DataW.trod_lt m _ _ _ hm
  obtain ⟨n0, a0, cap0, q0, rfl, x0, w0, u0⟩ := graph_of_trod (j := 0) (hval 0 24 v0 rfl rfl) h0 hsz rfl rfl
  obtain ⟨a1, len1, cap1, rfl⟩ := okWide_slice Try.underlying40 (hval 1 40 v1 rfl rfl)
  have k1 := h1
  have lt1 : ∀ x ∈ p1, x.block < W.heap.size := by obtain ⟨m, hm⟩ := k1; exact DataW.trod_lt m _ _ _ hm
  obtain ⟨z1, w1⟩ := IsRow.of_trod (j := 1) Try.underlying40 Try.underlying3 cellsInt bytesInt h1 hsz rfl rfl
  have k2 := h2
  have lt2 : ∀ x ∈ p2, x.block < W.heap.size := by obtain ⟨m, hm⟩ := k2; exact DataW.trod_lt m _ _ _ hm
  obtain ⟨n2, q2, rfl, w2, u2⟩ := what_of_trod (hval 2 55 v2 rfl rfl) h2
  clear hA0
  refine (walk n0 a0 cap0 q0 a1 len1 cap1 z1 n2 q2 W x0 w0 u0 w1 w2 u2).mono fun e W' ⟨he, bel⟩ => ?_
  subst he
  exact ⟨_, rfl, _, _, _, [], _, [], hW', trodAll_mk1 (shut_bool Try.underlying4 _), (trodAll_cons_mk (Below.trod laidOut (by kernel_rfl) (of_decide_eq_true (by kernel_rfl)) k0 bel lt0) (trodAll_cons_mk (Below.trod laidOut (by kernel_rfl) (of_decide_eq_true (by kernel_rfl)) k1 bel lt1) (trodAll_cons_mk (Below.trod laidOut (by kernel_rfl) (of_decide_eq_true (by kernel_rfl)) k2 bel lt2) trodAll_mk0))), rfl, bel.frame _, fun h => by cases h⟩

theorem laid_met (os : Os) : laidMet Try.prog Rows.editMemoryRow.laid ((settled os).forCall (fun _ _ => 0) ⟨#[], #[.agg #[.int .i64 0, .slice none 0 0], .slice none 0 0, .agg #[.int .i64 0, .int .i64 0, .int .i64 0]], []⟩).memory :=
  laidMet_of_run' 100 (by kernel_rfl) (by kernel_rfl)
theorem reads (os : Os) {H : Type} (enc : TypeId × Value → H) : ∃ places, DataW.whole enc Try.prog ((settled os).forCall (fun _ _ => 0) ⟨#[], #[.agg #[.int .i64 0, .slice none 0 0], .slice none 0 0, .agg #[.int .i64 0, .int .i64 0, .int .i64 0]], []⟩).memory Try.f8.params.toList Rows.editMemorySpec.vars false (#[.agg #[.int .i64 0, .slice none 0 0], .slice none 0 0, .agg #[.int .i64 0, .int .i64 0, .int .i64 0]] : Array Value).toList 8 = some ([.agg [.lit (.int .i64 0), .nil], .nil, .agg [.lit (.int .i64 0), .agg [.lit (.int .i64 0), .lit (.int .i64 0)]]], [], places) :=
  ⟨[], by kernel_rfl⟩

set_option maxRecDepth 100000 in
theorem lifted (os : Os) (started : os.Started) (H : Type) (enc : TypeId × Value → H) (F : Stop.Interp) :
    ReturnsInHanded {} Try.checked os 8 .any ((OpenSpec.ofChange Rows.editMemorySpec).preRow enc Try.prog Try.f8 Rows.editMemoryRow.domain false Rows.editMemoryRow.laid) (((OpenSpec.ofChange Rows.editMemorySpec).at F).post enc Try.prog Try.f8 false true false false) := by
  obtain ⟨places, hx⟩ := reads os enc
  refine returnsInHanded_of_row (C := Try.checked) (s := (OpenSpec.ofChange Rows.editMemorySpec)) own started (by kernel_rfl) Try.func8
    (witness_row_at (enc := enc) (C := Try.checked) false (settled os) #[.agg #[.int .i64 0, .slice none 0 0], .slice none 0 0, .agg #[.int .i64 0, .int .i64 0, .int .i64 0]] rfl (by kernel_rfl) (by kernel_rfl) (by kernel_rfl)
      (OpenSpec.preRow_of_cond 8 hx (by kernel_rfl) (fun k hk => by cases hk) (by kernel_rfl) (laid_met os))) ?_
  intro W base args ds gs before hval hW _ _ hsz _ _ _
  exact contract H enc W base args ds gs before hval hW hsz 

theorem said : Rows.EditMemorySaid :=
  OpenClaim.holds_of_cond 8 Try.f8 rfl rfl rfl rfl rfl rfl rfl ⟨rfl, rfl, rfl, rfl, rfl⟩ rfl rfl rfl rfl rfl (by kernel_rfl) Try.func8 (by kernel_rfl)
    (of_decide_eq_true (by kernel_rfl)) (by unfold Func.isWrapper; first | (rw [if_pos (by decide +kernel)]; kernel_rfl) | (rw [if_neg (by decide +kernel)]; exact ⟨rfl, rfl⟩))
    (fun os started H enc _ F => by rw [OpenClaim.pre_eq_preRow]; exact lifted os started H enc F)

end lawEM

theorem editMemory_holds : Rows.EditMemorySaid := lawEM.said

#print axioms editMemory_holds
end Go.Proofs.Ytdkckdbpbdhoaaa
