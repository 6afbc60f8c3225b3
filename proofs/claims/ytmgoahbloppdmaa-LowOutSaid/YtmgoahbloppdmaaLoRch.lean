/-
  The statements' own 'reached': whoever goes along Out from the roots comes to every vertex.
-/
import Derived.Test.YtmgoahbloppdmaaLoRc
import Derived.Test.YtmgoahbloppdmaaMg31
import Derived.Test.YtmgoahbloppdmaaDfBl
import Derived.Test.YtmgoahbloppdmaaPush
import Derived.Test.YtmgoahbloppdmaaMg08
import Derived.Deep.CutRange
namespace Go.Proofs.Ytmgoahbloppdmaa
open Go.RowKit Go.Sort

theorem Wrote.low {S : Nat → Prop} {w0 w w' : World} (h : Wrote S w0 w) (hb : Below w0.heap.size w w') : Wrote S w0 w' :=
  ⟨hb.os.trans h.os, hb.tape.trans h.tape, hb.output.trans h.output, Nat.le_trans h.size hb.size, fun k hk hS => (hb.block k hk).trans (h.block k hk hS)⟩
theorem made_bools8 {W : World} {k M : Nat} (h : W.heap.size = k) : BoolsBlk (W.alloc (.cells (madeCells #[.bool false] M) 4)) k (List.replicate M false) := by
  unfold BoolsBlk
  rw [alloc_at h]
  have e : madeCells #[.bool false] M = ((List.replicate M false).map Value.bool).toArray := by
    apply Array.ext'
    rw [toList_madeCells_one, List.map_replicate]
  rw [e]
theorem Try.infoBool8 : (Try.prog.info? 4).map (fun i => (i.zero, i.size, i.bytes)) = some (some (.bool false), 1, 1) := by kernel_rfl
theorem zs_append (R : List Nat) (v : Nat) : zs (R ++ [v]) = zs R ++ [(v : Int)] := by
  unfold zs
  rw [List.map_append]
  rfl

section
variable {w : World} {n : Nat} {ao : Option Addr} {ca : Nat} {es : List (Int × Int)} {s : Df.St} {a1 a2 a3 a4 b1 b2 b3 b4 : Option Addr} {c1 c2 c3 c4 d1 d2 d3 d4 B0 : Nat} {vs : List Value}

set_option maxRecDepth 100000 in
set_option maxHeartbeats 16000000 in
theorem reached8_any (he : EdgesAt w ao es) (hv : Si.Val n es) (hF : LstF w ⟨a1, a2, a3, a4, c1, c2, c3, c4⟩ s) (hVF : Df.VF n es s) (hR : RowsZ w B0 (.slice b4 n d4) vs (Lo.outTo n es s es.length)) :
    Calls Try.prog 12 #[.agg #[.int .i64 (n : Int), .slice ao es.length ca], .agg #[.slice a1 n c1, .slice a2 n c2, .slice a3 n c3, .slice a4 es.length c4], .agg #[.slice b1 es.length d1, .slice b2 es.length d2, .slice b3 es.length d3, .slice b4 n d4]] w fun r w' => r = .returned (.bool true) ∧ Below w.heap.size w w' := by
  have hfew := hv.few
  have hhi := hv.hi
  obtain ⟨W, hW⟩ : ∃ W, W = ((w.alloc (.cells #[.int .i64 (n : Int), .slice ao es.length ca] 24)).alloc (.cells #[.slice a1 n c1, .slice a2 n c2, .slice a3 n c3, .slice a4 es.length c4] 28)).alloc (.cells #[.slice b1 es.length d1, .slice b2 es.length d2, .slice b3 es.length d3, .slice b4 n d4] 34) := ⟨_, rfl⟩
  obtain ⟨A, hA⟩ : ∃ A, A = W.alloc (.cells (madeCells #[.bool false] n) 4) := ⟨_, rfl⟩
  have hsW : W.heap.size = w.heap.size + 3 := by rw [hW]; simp
  have hsA : A.heap.size = w.heap.size + 4 := by rw [hA]; simp; omega
  have hB0 : Below w.heap.size w W := by rw [hW]; exact (((Below.refl _ _).alloc (Nat.le_refl _) _).alloc (by simp) _).alloc (by simp; omega) _
  have hBA : Below w.heap.size w A := by rw [hA]; exact hB0.alloc (by omega) _
  have g1 : A.heap[w.heap.size]? = some (.cells #[.int .i64 (n : Int), .slice ao es.length ca] 24 (0, 0)) := by
    rw [hA, Below.heap_alloc _ _ _ (by omega), hW, Below.heap_alloc _ _ _ (by simp; omega), Below.heap_alloc _ _ _ (by simp)]
    exact heap_alloc_new w _
  have g2 : A.heap[w.heap.size + 1]? = some (.cells #[.slice a1 n c1, .slice a2 n c2, .slice a3 n c3, .slice a4 es.length c4] 28 (0, 0)) := by
    rw [hA, Below.heap_alloc _ _ _ (by omega), hW, Below.heap_alloc _ _ _ (by simp)]
    exact alloc_at (by simp)
  have g3 : A.heap[w.heap.size + 1 + 1]? = some (.cells #[.slice b1 es.length d1, .slice b2 es.length d2, .slice b3 es.length d3, .slice b4 n d4] 34 (0, 0)) := by
    rw [hA, Below.heap_alloc _ _ _ (by omega), hW]
    exact alloc_at (by simp)
  have gA : BoolsBlk A (w.heap.size + 1 + 1 + 1) (List.replicate n false) := by rw [hA]; exact made_bools8 hsW
  have HST : Hid (∀ V, Wrote (fun b => b = w.heap.size + 1 + 1 + 1) A V → (V.cell? ⟨w.heap.size, 0, none⟩ = some (.int .i64 (n : Int)) ∧ V.cell? ⟨w.heap.size, 1, none⟩ = some (.slice ao es.length ca) ∧ V.cell? ⟨w.heap.size + 1, 0, none⟩ = some (.slice a1 n c1) ∧ V.cell? ⟨w.heap.size + 1, 1, none⟩ = some (.slice a2 n c2) ∧ V.cell? ⟨w.heap.size + 1, 2, none⟩ = some (.slice a3 n c3) ∧ V.cell? ⟨w.heap.size + 1, 3, none⟩ = some (.slice a4 es.length c4) ∧ V.cell? ⟨w.heap.size + 1 + 1, 3, none⟩ = some (.slice b4 n d4)) ∧ EdgesAt V ao es ∧ LstF V ⟨a1, a2, a3, a4, c1, c2, c3, c4⟩ s ∧ RowsZ V B0 (.slice b4 n d4) vs (Lo.outTo n es s es.length) ∧ Below w.heap.size w V ∧ w.heap.size + 4 ≤ V.heap.size) := fun V hV => by
    obtain ⟨x0, x1, -⟩ := pair_cells ((hV.block w.heap.size (by omega) (by omega)).trans g1)
    obtain ⟨y0, y1, y2, y3, -⟩ := four_cells ((hV.block (w.heap.size + 1) (by omega) (by omega)).trans g2)
    obtain ⟨z0, z1, z2, z3, -⟩ := four_cells ((hV.block (w.heap.size + 1 + 1) (by omega) (by omega)).trans g3)
    have hb := hBA.trans (hV.below (B := w.heap.size) (by omega) (fun k hk => by omega))
    exact ⟨⟨x0, x1, y0, y1, y2, y3, z3⟩, he.later hb, hF.later hb, hR.later hb, hb, by have := hV.size; omega⟩
  have HV := Nu.hid hv
  have HVF := Nu.hid hVF
  have HGA := Nu.hid gA
  have HWA : Hid (A = (((w.alloc (.cells #[.int .i64 (n : Int), .slice ao es.length ca] 24)).alloc (.cells #[.slice a1 n c1, .slice a2 n c2, .slice a3 n c3, .slice a4 es.length c4] 28)).alloc (.cells #[.slice b1 es.length d1, .slice b2 es.length d2, .slice b3 es.length d3, .slice b4 n d4] 34)).alloc (.cells (madeCells #[.bool false] n) 4)) := by rw [hA, hW]; exact Nu.hid rfl
  obtain ⟨i0, hi, hz0, hz1, hz2⟩ := info_parts Try.infoBool8
  have hmk : ∀ W, (Instr.makeSlice 43 (.int .i64 (n : Int)) (.int .i64 (n : Int))).run Try.prog W = .ok (.slice (some ⟨W.heap.size, 0, none⟩) n n) (W.alloc (.cells (madeCells #[.bool false] n) 4)) := fun W => by
    have := run_make (P := Try.prog) W 43 4 i0 (.bool false) Try.underlying43 hi hz0 .i64 .i64 (n : Int) (n : Int) (by omega) (Int.le_refl _) (by rw [hz2]; omega) (by omega)
    rw [this, hz1]
    simp [Value.cells]
  have hx0 : W.cell? ⟨w.heap.size, 0, none⟩ = some (.int .i64 (n : Int)) := by
    have : W.heap[w.heap.size]? = some (.cells #[.int .i64 (n : Int), .slice ao es.length ca] 24 (0, 0)) := by rw [← g1, hA, Below.heap_alloc _ _ _ (by omega)]
    exact (pair_cells this).1
  rw [hW] at hx0
  have HSA := Nu.hid hsA
  have hA4 : w.heap.size + 4 ≤ A.heap.size := by omega
  have hA5 : A.heap.size ≤ w.heap.size + 4 := by omega
  clear he hv hF hVF hR hB0 hBA g1 g2 g3 gA hA hW hi hz0 hz1 hz2 hsA hsW
  go_enter Try.func12, Try.ntmps12
  go_wp2
  rw [← HWA.out]
  clear HWA hx0 hmk
  go_loopw [8, 21] (fun c8 c21 wr => ∃ (k : Nat) (S : List Bool) (R : List Nat), k ≤ n ∧ c21 = .int .i64 (k : Int) ∧ Lo.RA n s S R k ∧ BoolsBlk wr (w.heap.size + 1 + 1 + 1) S ∧ OwnZ wr A.heap.size c8 (zs R) ∧ Wrote (fun b => b = w.heap.size + 1 + 1 + 1) A wr) (fun _ c21 _ => n - (intOf c21).toNat)
  case atStart => exact ⟨0, _, [], Nat.zero_le _, rfl, Lo.RA.start n s, HGA.out, .nil _ _, Wrote.refl _ _⟩
  case round =>
    obtain ⟨k, S, R, hk, rfl, hRA, hblk, hown, hwr⟩ := hrel
    obtain ⟨⟨x0, x1, x2, x3, x4, x5, x6⟩, -, hFr, -, hbel, hsz⟩ := HST.out wr hwr
    obtain ⟨le1, le2, le3, le4⟩ := HVF.out.lens
    have HRA := Nu.hid hRA
    have HBLK := Nu.hid hblk
    have HWR := Nu.hid hwr
    have HOWN := Nu.hid hown
    have hgl := hblk.lt
    have hAw := hwr.size
    by_cases hlt : k < n
    · have hlti : (k : Int) < (n : Int) := by omega
      have hk0 : (0 : Int) ≤ (k : Int) := by omega
      obtain ⟨gp, op, ep, cp⟩ := lst_at hFr.l1 (i := k) (by omega)
      dsimp only at ep
      subst ep
      have HLT := Nu.hid hlt
      have hRl : (zs R).length ≤ 17592186044000 := by
        have h1 := hRA.cnt
        have h2 := Lo.ct_le S
        have h3 := hRA.len
        unfold zs
        rw [List.length_map]
        omega
      have HRL := Nu.hid hRl
      have hsc := hblk.cell (i := k) (x := S.getD k false) (by rw [List.getD_eq_getElem?_getD, List.getElem?_eq_getElem (by rw [hRA.len]; exact hlt)]; rfl)
      have hfz := hblk.free k
      have hfar : u8.ownBlock ≠ some (w.heap.size + 1 + 1 + 1) := fun e => by have := (hown.lt e).1; omega
      obtain ⟨pp, hpp⟩ : ∃ pp, s.par.getD k (-1) = pp := ⟨_, rfl⟩
      rw [hpp] at cp
      have HPP : Hid (Df.at_ s.par k = pp) := hpp
      have HFAR := Nu.hid hfar
      clear hRA hblk hown hwr hFr hbel le1 le2 le3 le4 hlt hRl hpp hfar
      by_cases hp : pp < 0
      · obtain ⟨w1, hw1⟩ : ∃ w1, w1 = wr.setCell ⟨w.heap.size + 1 + 1 + 1, k, none⟩ (.bool true) := ⟨_, rfl⟩
        have hs1 : w1.heap.size = wr.heap.size := by rw [hw1]; simp
        have hblk1 : BoolsBlk w1 (w.heap.size + 1 + 1 + 1) (S.set k true) := by rw [hw1]; exact HBLK.out.set k true
        have hown1 : OwnZ w1 A.heap.size u8 (zs R) := by rw [hw1]; exact HOWN.out.set_far HFAR.out _
        have hwr1 : Wrote (fun b => b = w.heap.size + 1 + 1 + 1) A w1 := by rw [hw1]; exact HWR.out.setCell rfl _
        have HBLK1 := Nu.hid hblk1
        have HOWN1 := Nu.hid hown1
        have HWR1 := Nu.hid hwr1
        have HW1 := Nu.hid hw1
        have hAs : A.heap.size ≤ w1.heap.size := by omega
        clear hblk1 hown1 hwr1 hw1 hs1
        go_upto_region 8 with fail
        rw [← HW1.out]
        go_wp2_with (at_builtin; refine wpList_push rfl _ _ rfl _ A.heap.size _ (zs R) (k : Int) HOWN1.out hAs HRL.out rfl rfl ?_; refine Hid.out ?_)
        refine Nu.hid ?_
        intro v' w5 ho5 hg5 hat5 hb5
        have HO5 : Hid (OwnZ w5 A.heap.size v' (zs (R ++ [k]))) := by rw [zs_append]; exact Nu.hid ho5
        have HW5 := Nu.hid (HWR1.out.low hb5)
        have HBLK5 : Hid (BoolsBlk w5 (w.heap.size + 1 + 1 + 1) (S.set k true)) := (hb5.block _ (by have := HSA.out; omega)).trans HBLK1.out
        have HRA5 : Hid (Lo.RA n s (S.set k true) (R ++ [k]) (k + 1)) := HRA.out.put HLT.out (by rw [HPP.out]; exact hp)
        clear ho5 hg5 hat5 hb5
        go_wp2
        go_roundw
        case rel => exact ⟨k + 1, _, _, HLT.out, by go_num, HRA5.out, HBLK5.out, HO5.out, HW5.out⟩
        case measure => have := HLT.out; simp [intOf]; omega
      · have HRA5 : Hid (Lo.RA n s S R (k + 1)) := HRA.out.pass (by rw [HPP.out]; exact hp)
        go_wp2
        go_roundw
        case rel => exact ⟨k + 1, _, _, HLT.out, by go_num, HRA5.out, HBLK.out, HOWN.out, HWR.out⟩
        case measure => have := HLT.out; simp [intOf]; omega
    · obtain rfl : k = n := by omega
      have hd : ¬ (k : Int) < (k : Int) := by omega
      have HRB : Hid (Lo.RB k es s S R 0) := hRA.done
      clear hRA hblk hown hwr hFr hbel le1 le2 le3 le4 hlt hk x0 x1 x2 x3 x4 x5 x6
      go_wp2
      go_loopw [8, 10] (fun c8 c10 wr => ∃ (c : Nat) (S : List Bool) (R : List Nat), c10 = .int .i64 (c : Int) ∧ Lo.RB k es s S R c ∧ BoolsBlk wr (w.heap.size + 1 + 1 + 1) S ∧ OwnZ wr A.heap.size c8 (zs R) ∧ Wrote (fun b => b = w.heap.size + 1 + 1 + 1) A wr) (fun _ c10 _ => k - (intOf c10).toNat)
      case atStart => exact ⟨0, S, R, rfl, HRB.out, HBLK.out, HOWN.out, HWR.out⟩
      case round =>
        clear HRA HBLK HWR HOWN HRB
        obtain ⟨c, S, R, rfl, hRB, hblk, hown, hwr⟩ := hrel
        obtain ⟨⟨x0, x1, x2, x3, x4, x5, x6⟩, -, hFr, hrows, hbel, hsz⟩ := HST.out wr hwr
        have HRB := Nu.hid hRB
        have HBLK := Nu.hid hblk
        have HWR := Nu.hid hwr
        have HOWN := Nu.hid hown
        have HBEL := Nu.hid hbel
        have hfewR := hRB.few
        rcases List.eq_nil_or_concat R with hnil | ⟨R', v, hcat⟩
        · subst hnil
          obtain ⟨ao', cp', hform, -, -⟩ := hown.form
          subst hform
          have hck : c = k := hRB.all HVF.out
          subst hck
          have j1 : ((c : Int) == (c : Int)) = true := by simp
          clear hRB hblk hown hwr hFr hrows hbel
          go_wp2
          go_ret
          exact ⟨rfl, HBEL.out⟩
        · rw [List.concat_eq_append] at hcat
          subst hcat
          rw [zs_append] at hown
          have hvn := (hRB.inS v (by simp)).1
          have hv0 : (0 : Int) ≤ (v : Int) := by omega
          have hv1 : (v : Int) < (k : Int) := by omega
          obtain ⟨g, cp, hform, hcell, hroom, hgA, hgw⟩ := hown.row_snoc
          subst hform
          have HOWN' : Hid (OwnZ wr A.heap.size (.slice (some ⟨g, 0, none⟩) (zs R').length cp) (zs R')) := hown.front
          obtain ⟨L, hL⟩ : ∃ L, (Lo.outTo k es s es.length)[v]? = some L := ⟨_, List.getElem?_eq_getElem (by rw [Lo.outTo_len]; exact hvn)⟩
          have HRI : Hid (Lo.RI k es s S R' (c + 1) v L 0) := hRB.pop
          have HLv := Nu.hid hL
          have hcR : c + R'.length + 1 ≤ k := by have := hRB.few; rw [List.length_append] at this; simp at this; omega
          have hzl : (zs R').length = R'.length := by unfold zs; rw [List.length_map]
          obtain ⟨xv, hxv⟩ := hrows.at' hL
          obtain ⟨xo, xc, hxe, hxa, -⟩ := (hrows.row v xv L hxv hL).form
          subst hxe
          have HXV := Nu.hid hxv
          obtain ⟨gb, gc, e4⟩ := row_form hrows (by rw [Lo.outTo_len]; omega)
          rw [Lo.outTo_len] at e4
          cases e4
          have cx := World.ownsRow.cells hrows.outer (g := gb) rfl v _ hxv
          have ea : ((⟨gb, 0, none⟩ : Addr).add v) = ⟨gb, v, none⟩ := by by_cases h0 : v = 0 <;> simp [Addr.add, h0]
          rw [ea] at cx
          obtain ⟨p, hp⟩ : ∃ p, (zs R').length = p := ⟨_, rfl⟩
          rw [hp] at hcell hroom HOWN' hzl ⊢
          obtain ⟨N, hN⟩ : ∃ N, L.length = N := ⟨_, rfl⟩
          rw [hN] at cx
          rw [hN] at HXV
          have HN := Nu.hid hN
          have e1 : ((p : Int) + 1) - 1 = (p : Int) := by omega
          have e2 : (0 : Int) ≤ (p : Int) := by omega
          have e3 : (p : Int) ≤ (cp : Int) := by omega
          have e5 : (p : Int) < (p : Int) + 1 := by omega
          have hNl : N ≤ 4194304 := by
            have := (Lo.outTo_half HV.out HVF.out es.length (Nat.le_refl _) L (List.mem_of_getElem? hL)).2
            omega
          have HPB : Hid (p + 1 + c ≤ k) := by have := hcR; rw [← hzl] at this; exact Nu.hid (by omega)
          have hpl : p ≤ 17592186044000 := by have := HPB.out; omega
          have hcl : c ≤ 17592186044000 := by have := HPB.out; omega
          clear hRB hblk hown hwr hFr hrows hbel hp hN hL hxv hxa hzl hcR hfewR
          go_wp2
          go_loopw [8, 60] (fun c8 c60 wt => ∃ (i : Nat) (S : List Bool) (R : List Nat), i ≤ N ∧ c60 = .int .i64 (i : Int) ∧ Lo.RI k es s S R (c + 1) v L i ∧ BoolsBlk wt (w.heap.size + 1 + 1 + 1) S ∧ OwnZ wt A.heap.size c8 (zs R) ∧ Wrote (fun b => b = w.heap.size + 1 + 1 + 1) A wt) (fun _ c60 _ => N - (intOf c60).toNat)
          case atStart => exact ⟨0, S, R', Nat.zero_le _, rfl, HRI.out, HBLK.out, HOWN'.out, HWR.out⟩
          case round =>
            clear HRB HBLK HWR HOWN HOWN' HRI HBEL
            obtain ⟨i, S, R, hi, rfl, hRI, hblk, hown, hwr⟩ := hrel
            obtain ⟨⟨x0, x1, x2, x3, x4, x5, x6⟩, hE, hFr, hrows, hbel, hsz⟩ := HST.out wr hwr
            have HRI := Nu.hid hRI
            have HBLK := Nu.hid hblk
            have HWR := Nu.hid hwr
            have HOWN := Nu.hid hown
            by_cases hlt : i < N
            · have hlti : (i : Int) < (N : Int) := by omega
              have hi0 : (0 : Int) ≤ (i : Int) := by omega
              obtain ⟨hx, hLi⟩ : ∃ hx, L[i]? = some hx := ⟨_, List.getElem?_eq_getElem (by rw [HN.out]; exact hlt)⟩
              obtain ⟨b, hb, hfb, rfl⟩ := (Lo.outTo_mem HV.out HVF.out es.length (Nat.le_refl _) v L HLv.out hx).1 (List.mem_of_getElem? hLi)
              obtain ⟨xo', xc', hxe, hxa, -⟩ := (hrows.row v _ L HXV.out HLv.out).form
              cases hxe
              obtain ⟨gl, ol, rfl, cl⟩ := hxa i _ hLi
              obtain ⟨hq1, hq2, hq3, hq4⟩ := Lo.oh_of HVF.out hb
              rw [hq1] at cl
              have hLi' := hLi
              obtain ⟨vlt, tlt⟩ := Lo.ends_lt HV.out HVF.out hb
              have HEB := Nu.hid (ends_yes (ca := ca) b hb HV.out HVF.out hE hFr)
              have hsc := hblk.cell (i := Lo.go_ es s b) (x := S.getD (Lo.go_ es s b) false) (by rw [List.getD_eq_getElem?_getD, List.getElem?_eq_getElem (by rw [hRI.len]; exact tlt)]; rfl)
              have HPASS : Hid (S.getD (Lo.go_ es s b) false = true → Lo.RI k es s S R (c + 1) v L (i + 1)) := fun h => hRI.pass HVF.out hb hLi h
              have HPUT : Hid (S.getD (Lo.go_ es s b) false = false → Lo.RI k es s (S.set (Lo.go_ es s b) true) (R ++ [Lo.go_ es s b]) (c + 1) v L (i + 1)) := fun h => hRI.put HVF.out hb hLi tlt h
              have hRl : (zs R).length ≤ 17592186044000 := by
                have h1 := hRI.cnt
                have h2 := Lo.ct_le S
                have h3 := hRI.len
                unfold zs
                rw [List.length_map]
                omega
              have HRL := Nu.hid hRl
              have HLT := Nu.hid hlt
              have hgl := hblk.lt
              have hAw := hwr.size
              have hcb := block_lt_of_cell cl
              obtain ⟨q, hq⟩ : ∃ q, Lo.oh s b = q := ⟨_, rfl⟩
              obtain ⟨tt, htt⟩ : ∃ tt, Lo.go_ es s b = tt := ⟨_, rfl⟩
              obtain ⟨ff, hff⟩ : ∃ ff, Lo.fr es s b = ff := ⟨_, rfl⟩
              rw [hq] at cl hq2 hq3 hq4
              rw [htt] at hsc HPASS HPUT HEB tlt
              rw [hff] at HEB
              have d1 : ((q : Int)).tdiv 2 = (b : Int) := by rw [Int.tdiv_eq_ediv_of_nonneg (by omega)]; omega
              have d2 : (q : Int) / 2 = (b : Int) := by omega
              have t0 : (0 : Int) ≤ (tt : Int) := by omega
              have t1 : (tt : Int) < (k : Int) := by omega
              have hbl : b ≤ 17592186044000 := by omega
              have hql : q ≤ 17592186044000 := by omega
              obtain ⟨sb, hsb⟩ : ∃ sb, S.getD tt false = sb := ⟨_, rfl⟩
              rw [hsb] at hsc HPASS HPUT
              have HBL := Nu.hid hb
              clear hRI hblk hown hwr hE hFr hrows hbel hlt hLi hLi' hfb hxa hq1 hq2 hq3 vlt tlt hRl hq htt hff hsb hb
              go_wp2_with (go_at_call 9; refine HEB.out.mono ?_; rintro e w8 ⟨rfl, hb8⟩; refine Hid.out ?_)
              refine Nu.hid ?_
              have HBLK8 : Hid (BoolsBlk w8 (w.heap.size + 1 + 1 + 1) S) := HBLK.out.later hb8
              have HOWN8 : Hid (OwnZ w8 A.heap.size u8 (zs R)) := HOWN.out.later hb8
              have HWR8 : Hid (Wrote (fun b => b = w.heap.size + 1 + 1 + 1) A w8) := HWR.out.later hb8
              have hs8 := hb8.size
              have hsc8 := (hb8.cell (p := ⟨w.heap.size + 1 + 1 + 1, tt, none⟩) (block_lt_of_cell hsc)).trans hsc
              have hfz8 := HBLK8.out.free tt
              clear hb8 hsc
              cases sb with
              | true =>
                go_wp2
                go_roundw
                case rel => exact ⟨i + 1, S, R, HLT.out, by go_num, HPASS.out (by trivial), HBLK8.out, HOWN8.out, HWR8.out⟩
                case measure => have := HLT.out; simp [intOf]; omega
              | false =>
                have hfar : u8.ownBlock ≠ some (w.heap.size + 1 + 1 + 1) := fun e => by have := (HOWN8.out.lt e).1; omega
                obtain ⟨w1, hw1⟩ : ∃ w1, w1 = w8.setCell ⟨w.heap.size + 1 + 1 + 1, tt, none⟩ (.bool true) := ⟨_, rfl⟩
                have hs1 : w1.heap.size = w8.heap.size := by rw [hw1]; simp
                have HBLK1 : Hid (BoolsBlk w1 (w.heap.size + 1 + 1 + 1) (S.set tt true)) := by rw [hw1]; exact Nu.hid (HBLK8.out.set tt true)
                have HOWN1 : Hid (OwnZ w1 A.heap.size u8 (zs R)) := by rw [hw1]; exact Nu.hid (HOWN8.out.set_far hfar _)
                have HWR1 : Hid (Wrote (fun b => b = w.heap.size + 1 + 1 + 1) A w1) := by rw [hw1]; exact Nu.hid (HWR8.out.setCell rfl _)
                have HW1 := Nu.hid hw1
                have hAs : A.heap.size ≤ w1.heap.size := by omega
                clear hw1 hs1 hfar
                go_upto_region 21 with fail
                rw [← HW1.out]
                go_wp2_with (at_builtin; refine wpList_push rfl _ _ rfl _ A.heap.size _ (zs R) (tt : Int) HOWN1.out hAs HRL.out rfl rfl ?_; refine Hid.out ?_)
                refine Nu.hid ?_
                intro v' w5 ho5 hg5 hat5 hb5
                have HO5 : Hid (OwnZ w5 A.heap.size v' (zs (R ++ [tt]))) := by rw [zs_append]; exact Nu.hid ho5
                have HW5 := Nu.hid (HWR1.out.low hb5)
                have HBLK5 : Hid (BoolsBlk w5 (w.heap.size + 1 + 1 + 1) (S.set tt true)) := (hb5.block _ (by have := HSA.out; omega)).trans HBLK1.out
                clear ho5 hg5 hat5 hb5
                go_wp2
                go_roundw
                case rel => exact ⟨i + 1, _, _, HLT.out, by go_num, HPUT.out (by trivial), HBLK5.out, HO5.out, HW5.out⟩
                case measure => have := HLT.out; simp [intOf]; omega
            · obtain rfl : i = N := by omega
              have hd : ¬ (i : Int) < (i : Int) := by omega
              have HRB : Hid (Lo.RB k es s S R (c + 1)) := Lo.RI.done HV.out HVF.out HLv.out (by rw [HN.out]; exact hRI)
              clear hRI hblk hown hwr hE hFr hrows hbel hlt hi
              go_wp2
              go_roundw
              case rel => exact ⟨c + 1, S, R, rfl, HRB.out, HBLK.out, HOWN.out, HWR.out⟩
              case measure => have := HPB.out; simp [intOf]; omega
end
end Go.Proofs.Ytmgoahbloppdmaa
