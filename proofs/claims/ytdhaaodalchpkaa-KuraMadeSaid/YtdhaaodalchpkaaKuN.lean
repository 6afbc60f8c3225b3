/-
  The document's Chains of layer 15.
-/
import Derived.Test.YtdhaaodalchpkaaKuM
import Derived.Test.YtdhaaodalchpkaaSiRDeg
import Derived.Test.YtdhaaodalchpkaaMgC
namespace Go.Proofs.Ytdhaaodalchpkaa
open Go.RowKit Go.Sort

theorem blk_later15 {w w' : World} {b : Nat} {o : Obj} (h : w.heap[b]? = some o) (hb : Below w.heap.size w w') : w'.heap[b]? = some o := (hb.block b (Array.getElem?_eq_some_iff.1 h).1).trans h

namespace Ku
section
variable {es : List (Int × Int)} {n : Int} {hv : Si.Val n es}
/-- The chains so far, as lists of ints. -/
noncomputable def rows (es : List (Int × Int)) {n : Int} (hv : Si.Val n es) (k : Nat) : List (List Int) := (chs es hv k).map fun l => ZL (vs (gs es hv) l)
theorem rows_yes {k : Nat} (h : First es hv k) : rows es hv (k + 1) = rows es hv k ++ [ZL (vs (gs es hv) (ch es hv k))] := by
  unfold rows
  simp only [chs]
  rw [if_pos h, List.map_append]
  rfl
theorem rows_no {k : Nat} (h : ¬ First es hv k) : rows es hv (k + 1) = rows es hv k := by
  unfold rows
  simp only [chs]
  rw [if_neg h]
theorem rows_length (k : Nat) : (rows es hv k).length = (chs es hv k).length := by simp [rows]
theorem rows_at {k t : Nat} {l : List Int} (h : (rows es hv k)[t]? = some l) : ∃ c, (chs es hv k)[t]? = some c ∧ l = ZL (vs (gs es hv) c) := by
  unfold rows at h
  rw [List.getElem?_map] at h
  obtain ⟨c, hc, rfl⟩ := Option.map_eq_some_iff.1 h
  exact ⟨c, hc, rfl⟩
theorem chs_cn {k : Nat} (hk : k ≤ es.length) {c : List Nat} (h : c ∈ chs es hv k) : Cn (gs es hv) c := by
  obtain ⟨e, h1, _, rfl⟩ := mem_chs.1 h
  exact (ch_ok (by omega)).1
theorem cn_few {c : List Nat} (h : Cn (gs es hv) c) : c.length ≤ 2 * es.length := by
  rcases h.kind with o | o
  · -- an open one is what leads on from its first half-edge
    have hnd : c.Nodup := o.tr.nodup fun i hi e => by
      have hp := pos_of o.ne
      obtain ⟨a, ha⟩ : ∃ a, c[0]? = some a := ⟨_, List.getElem?_eq_getElem hp⟩
      rw [ha] at e
      obtain ⟨b, hb⟩ : ∃ b, c[i - 1]? = some b := ⟨_, List.getElem?_eq_getElem (by have := (List.getElem?_eq_some_iff.1 e).1; omega)⟩
      have h1 := o.tr (i - 1) b a hb (by rw [show i - 1 + 1 = i by omega]; exact e)
      have h2 := (gs es hv).rev b a h1
      rw [o.fst a ha] at h2
      cases h2
    exact few_below hnd h.lt
  · exact few_below o.1.nd h.lt
/-- It goes by an edge just if two neighbours are its ends. -/
theorem step_by {c : List Nat} (h : Cn (gs es hv) c) {i : Nat} {p : Int × Int} (hp : es[i]? = some p) : StepI (ZL (vs (gs es hv) c)) p.1 p.2 ↔ By c i := by
  have hi := (List.getElem?_eq_some_iff.1 hp).1
  have hok := hv.each _ p hp
  unfold Si.ok at hok
  have f1 := Cs.fr_even hp
  have f2 := Cs.fr_odd hp
  have hstep : ∀ j, j < c.length → ∃ x, c[j]? = some x ∧ (ZL (vs (gs es hv) c))[j]? = some (Cs.fr es x : Int) ∧ (ZL (vs (gs es hv) c))[j + 1]? = some (Cs.to es x : Int) := fun j hj => by
    obtain ⟨x, hx⟩ : ∃ x, c[j]? = some x := ⟨_, List.getElem?_eq_getElem hj⟩
    refine ⟨x, hx, ?_, ?_⟩
    · rw [ZL_at, vs_at h.tr hj, hx]
      rfl
    · rw [ZL_at, vs_succ, hx]
      show some (((gs es hv).to x : Nat) : Int) = _
      rw [gs_to]
  constructor
  · rintro ⟨j, u, v, hu, hw, hh⟩
    have hj : j < c.length := by
      have := (List.getElem?_eq_some_iff.1 hw).1
      rw [ZL_length, vs_length h.ne] at this
      omega
    obtain ⟨x, hx, e1, e2⟩ := hstep j hj
    rw [e1] at hu
    rw [e2] at hw
    have hu := Option.some.inj hu
    have hw := Option.some.inj hw
    have hxl : x < 2 * es.length := h.lt x (List.mem_of_getElem? hx)
    have key : ∀ y, y < 2 * es.length → Cs.fr es x = Cs.fr es y → Cs.to es x = Cs.to es y → x = y := fun y hy a b => (gs es hv).simple x y hxl hy a (by show Cs.fr es (Cs.twin x) = Cs.fr es (Cs.twin y); rw [Cs.fr_twin, Cs.fr_twin]; exact b)
    rcases hh with ⟨ha, hb⟩ | ⟨ha, hb⟩
    · refine ⟨x, List.mem_of_getElem? hx, ?_⟩
      rw [key (2 * i) (by omega) (by omega) (by omega)]
      omega
    · refine ⟨x, List.mem_of_getElem? hx, ?_⟩
      rw [key (2 * i + 1) (by omega) (by omega) (by omega)]
      omega
  · rintro ⟨x, hx, hxi⟩
    obtain ⟨j, hj, ej⟩ := List.mem_iff_getElem.1 hx
    obtain ⟨y, hy, e1, e2⟩ := hstep j hj
    rw [List.getElem?_eq_getElem hj, ej] at hy
    cases hy
    refine ⟨j, _, _, e1, e2, ?_⟩
    rcases Nat.mod_two_eq_zero_or_one x with e | e
    · rw [show x = 2 * i by omega]
      omega
    · rw [show x = 2 * i + 1 by omega]
      omega
end

/-- What Chains answers. -/
def ChainsP (n : Int) (es : List (Int × Int)) (w : World) (e : Ending) (w' : World) : Prop :=
  ((Si.valid n es = false ∧ e = .returned (.tuple #[.slice none 0 0, .int .i64 1])) ∨ ∃ (hv : Si.Val n es) (v : Value) (us : List Value), e = .returned (.tuple #[v, .int .i64 0]) ∧ RowsZ w' w.heap.size v us (rows es hv es.length)) ∧ Below w.heap.size w w'

theorem krow_at {w : World} {B : Nat} {v : Value} {vs : List Value} {ls : List (List Int)} (h : RowsZ w B v vs ls) {k : Nat} {x : Value} (hx : vs[k]? = some x) : ∃ g c, v = .slice (some ⟨g, 0, none⟩) ls.length c ∧ w.cell? ⟨g, k, none⟩ = some x := by
  have hk := (List.getElem?_eq_some_iff.1 hx).1
  have hl := h.len
  rcases h.outer.2 with ⟨_, h0⟩ | ⟨g, c, cur, e, _⟩
  · omega
  · refine ⟨g, c, e, ?_⟩
    have := World.ownsRow.cells h.outer (g := g) (by rw [e]; rfl) k x hx
    have ea : ((⟨g, 0, none⟩ : Addr).add k) = ⟨g, k, none⟩ := by
      by_cases h0 : k = 0 <;> simp [Addr.add, h0]
    rw [ea] at this
    exact this
end Ku

set_option maxRecDepth 100000 in
set_option maxHeartbeats 8000000 in
theorem kchains_any (n : Int) (ao : Option Addr) (cap : Nat) (es : List (Int × Int)) (w : World) (he : EdgesAt w ao es) (hl : es.length ≤ 4611686018427387904) :
    Calls Try.prog 11 #[.agg #[.int .i64 n, .slice ao es.length cap]] w (Ku.ChainsP n es w) := by
  obtain ⟨W, hW⟩ : ∃ W, W = w.alloc (.cells #[.int .i64 n, .slice ao es.length cap] 24) := ⟨_, rfl⟩
  have hB0 : Below w.heap.size w W := by rw [hW]; exact (Below.refl _ _).alloc (Nat.le_refl _) _
  have g1 : W.heap[w.heap.size]? = some (.cells #[.int .i64 n, .slice ao es.length cap] 24 (0, 0)) := by rw [hW]; exact heap_alloc_new w _
  obtain ⟨iR, hiR, hR0, hR1, hR2⟩ := info_parts Try.infoRow
  have HDG := Nu.hid (rdegrees_any n ao cap es W (he.later hB0) hl)
  have HE := Nu.hid (he.later hB0)
  have HB0 := Nu.hid hB0
  have HW := Nu.hid hW
  have HG := Nu.hid g1
  obtain ⟨q0, q1, -⟩ := pair_cells g1
  have hws := hB0.size
  rw [hW] at q0 q1
  clear he hB0 g1 hW
  go_enter Try.func11, Try.ntmps11
  go_wp2_with (go_at_call 16; rw [← HW.out]; refine HDG.out.mono ?_; refine Hid.out ?_)
  refine Nu.hid ?_
  rintro e w1 ⟨hcase, hb1⟩
  have HB1 := Nu.hid hb1
  have HBW1 := Nu.hid (HB0.out.trans (hb1.mono HB0.out.size))
  rcases hcase with ⟨hv, gd, m, rfl, rfl, hgd, hdi⟩ | ⟨hv, rfl⟩
  · have hval : Si.Val (m : Int) es := Si.valid_iff.1 hv
    have hfew := hval.few
    have HDI := Nu.hid hdi.at
    have HV := Nu.hid hval
    have HE1 := Nu.hid (HE.out.later hb1)
    have HG1 := Nu.hid (blk_later15 HG.out hb1)
    have hs1 := hb1.size
    clear hv hdi hb1 q0 q1 hval HDG
    go_wp2
    go_loopw [6, 7] (fun v cv wr => ∃ (i : Nat) (us : List Value), i ≤ es.length ∧ cv = .int .i64 (i : Int) ∧ RowsZ wr w1.heap.size v us (Ku.rows es HV.out i) ∧ Below w1.heap.size w1 wr) (fun _ cv _ => es.length - (intOf cv).toNat)
    case atStart => exact ⟨0, [], Nat.zero_le _, rfl, RowsZ.nil _ _, Below.refl _ _⟩
    case round =>
      obtain ⟨i, us, hi, rfl, hrz, hb⟩ := hrel
      obtain ⟨U, rfl⟩ : ∃ U, U = wr := ⟨wr, rfl⟩
      have HRZ := Nu.hid hrz
      have HB := Nu.hid hb
      obtain ⟨va, vc, hve⟩ := row_shape hrz
      obtain ⟨J, hJ⟩ : ∃ J, (Ku.rows es HV.out i).length = J := ⟨_, rfl⟩
      rw [hJ] at hve
      subst hve
      have hJi : J ≤ i := by rw [← hJ, Ku.rows_length]; exact Ku.chs_length i
      have HJ := Nu.hid hJ
      obtain ⟨q0, q1, -⟩ := pair_cells (blk_later15 HG1.out hb)
      have hsU := hb.size
      have hwi : IntKind.i64.wrap ((i : Int) + 1) = (i : Int) + 1 := by rw [IntKind.wrap_i64]; omega
      by_cases hlt : i < es.length
      · have hlti : (i : Int) < (es.length : Int) := by omega
        have hi0 : (0 : Int) ≤ (i : Int) := by omega
        obtain ⟨⟨p1, p2⟩, hp⟩ : ∃ p, es[i]? = some p := ⟨_, List.getElem?_eq_getElem hlt⟩
        have HP := Nu.hid hp
        clear hrz hb hJ hp
        go_wp2
        go_loopw [8, 9] (fun d cv wx => ∃ (k : Nat) (b : Bool), k ≤ J ∧ cv = .int .i64 (k : Int) ∧ d = .bool b ∧ (b = true ↔ ∃ t c, t < k ∧ (Ku.chs es HV.out i)[t]? = some c ∧ Ku.By c i) ∧ Below U.heap.size U wx) (fun _ cv _ => J - (intOf cv).toNat)
        case atStart => exact ⟨0, false, Nat.zero_le _, rfl, rfl, ⟨fun h => (by cases h), fun ⟨t, c, ht, _⟩ => by omega⟩, Below.refl _ _⟩
        case round =>
          obtain ⟨k, b, hk, rfl, rfl, hbi, hb⟩ := hrel
          obtain ⟨U1, rfl⟩ : ∃ U1, U1 = wr := ⟨wr, rfl⟩
          have HBI := Nu.hid hbi
          have HBU := Nu.hid hb
          have hwk : IntKind.i64.wrap ((k : Int) + 1) = (k : Int) + 1 := by rw [IntKind.wrap_i64]; omega
          have hrz1 := HRZ.out.later hb
          have hb1' : Below w1.heap.size w1 U1 := HB.out.trans (hb.mono HB.out.size)
          by_cases hkJ : k < J
          · have hkJi : (k : Int) < (J : Int) := by omega
            have hk0 : (0 : Int) ≤ (k : Int) := by omega
            obtain ⟨lr, hlr⟩ : ∃ lr, (Ku.rows es HV.out i)[k]? = some lr := ⟨_, List.getElem?_eq_getElem (by rw [HJ.out]; exact hkJ)⟩
            obtain ⟨c, hc, hlc⟩ := Ku.rows_at hlr
            obtain ⟨x, hx⟩ := hrz1.at' hlr
            obtain ⟨gv, gc, hvg, cx⟩ := Ku.krow_at hrz1 hx
            rw [HJ.out] at hvg
            have hvo : va = some ⟨gv, 0, none⟩ := by cases hvg; rfl
            obtain ⟨xa, xc, hxe, hxi, -⟩ := (hrz1.row k x lr hx hlr).form
            have hcn := Ku.chs_cn (hv := HV.out) hi (List.mem_of_getElem? hc)
            obtain ⟨Ln, hLn⟩ : ∃ Ln, lr.length = Ln := ⟨_, rfl⟩
            have hLb : 1 ≤ Ln ∧ Ln ≤ 17592186044000 := by
              rw [← hLn, hlc, Ku.ZL_length, Ku.vs_length hcn.ne]
              have := Ku.cn_few hcn
              omega
            rw [hLn] at hxe
            subst hxe
            obtain ⟨bk, hbk⟩ : ∃ bk : Bool, bk = true ↔ Ku.By c i := by
              by_cases h : Ku.By c i
              · exact ⟨true, ⟨fun _ => h, fun _ => rfl⟩⟩
              · exact ⟨false, ⟨fun hh => (by cases hh), fun hh => absurd hh h⟩⟩
            have HCS : Hid (∀ D : LW U1, Calls Try.prog 26 #[.slice xa Ln xc, .agg #[.int .i64 p1, .int .i64 p2]] D.val fun e w' => e = .returned (.bool bk) ∧ Below D.val.heap.size D.val w') := fun D => by
              refine (ksteps_any xa Ln xc lr p1 p2 D.val hLn (hxi.later D.h) hLb.1 hLb.2).mono ?_
              rintro e w' ⟨r, rfl, hr, hbr⟩
              refine ⟨?_, hbr⟩
              have := Ku.step_by hcn HP.out
              dsimp only at this
              rw [← hlc] at this
              have e1 : r = bk := by
                cases r <;> cases bk <;> simp_all
              rw [e1]
            obtain ⟨eb, eo, rfl, x0, x1⟩ := (HE1.out.later hb1') i _ HP.out
            dsimp only at x0 x1
            obtain ⟨-, r1, -⟩ := pair_cells (blk_later15 HG1.out hb1')
            have d0 : ∀ D : LW U1, D.val.cell? ⟨gv, k, none⟩ = some (.slice xa Ln xc) := fun D => (D.h.cell (p := ⟨gv, k, none⟩) (block_lt_of_cell cx)).trans cx
            have d1 : ∀ D : LW U1, D.val.cell? ⟨w.heap.size, 1, none⟩ = some (.slice (some ⟨eb, eo, none⟩) es.length cap) := fun D => (D.h.cell (p := ⟨w.heap.size, 1, none⟩) (block_lt_of_cell r1)).trans r1
            have d2 : ∀ D : LW U1, D.val.cell? ⟨eb, eo + i * 2, none⟩ = some (.int .i64 p1) := fun D => (D.h.cell (p := ⟨eb, eo + i * 2, none⟩) (block_lt_of_cell x0)).trans x0
            have d3 : ∀ D : LW U1, D.val.cell? ⟨eb, eo + i * 2 + 1, none⟩ = some (.int .i64 p2) := fun D => (D.h.cell (p := ⟨eb, eo + i * 2 + 1, none⟩) (block_lt_of_cell x1)).trans x1
            have hne := LW.any U1
            have HNX : Hid ((b || bk) = true ↔ ∃ t c, t < k + 1 ∧ (Ku.chs es HV.out i)[t]? = some c ∧ Ku.By c i) := by
              rw [Bool.or_eq_true, HBI.out, hbk]
              constructor
              · rintro (⟨t, c', ht, h1, h2⟩ | h)
                · exact ⟨t, c', by omega, h1, h2⟩
                · exact ⟨k, c, by omega, hc, h⟩
              · rintro ⟨t, c', ht, h1, h2⟩
                by_cases e : t = k
                · subst e
                  rw [hc] at h1
                  cases h1
                  exact .inr h2
                · exact .inl ⟨t, c', by omega, h1, h2⟩
            subst hvo
            clear hbi hb hrz1 hlr hc hlc hx cx hvg hxi hcn hLn x0 x1 r1 hb1' hbk
            cases bk
            all_goals
              go_wp2_with fail
              refine wp_region_lw (by kernel_rfl) (by kernel_rfl) ?_
              repeat (go_big_quiet_step ((first | (go_at_call 26; exact Calls.lw (HCS.out _)))))
              refine wpQuiet_nil ?_
              rintro _ ⟨E, rfl⟩
              have HBE := Nu.hid (HBU.out.trans (E.h.mono HBU.out.size))
              obtain ⟨WE, hWE⟩ : ∃ WE, WE = E.val := ⟨_, rfl⟩
              rw [← hWE] at HBE ⊢
              clear d0 d1 d2 d3 hne hWE
              go_wp2
              go_roundw
              case rel => exact ⟨k + 1, _, by omega, by go_num, by first | rfl | (simp; done), by have := HNX.out; simpa using this, HBE.out⟩
              case measure => simp [intOf]; omega
          · have hd : ¬ ((k : Int) < (J : Int)) := by omega
            obtain rfl : k = J := by omega
            have hseen : b = true ↔ ¬ Ku.First es HV.out i := by
              rw [← Ku.seen_iff hlt, hbi]
              constructor
              · rintro ⟨t, c, ht, h1, h2⟩
                exact ⟨c, List.mem_of_getElem? h1, h2⟩
              · rintro ⟨c, h1, h2⟩
                obtain ⟨t, ht⟩ := List.getElem?_of_mem h1
                refine ⟨t, c, ?_, ht, h2⟩
                have := (List.getElem?_eq_some_iff.1 ht).1
                rw [← HJ.out, Ku.rows_length]
                exact this
            cases b with
            | true =>
              have hnf : ¬ Ku.First es HV.out i := hseen.1 rfl
              have HN : Hid (Ku.rows es HV.out (i + 1) = Ku.rows es HV.out i) := Ku.rows_no hnf
              have HR2 := Nu.hid hrz1
              have HB2 := Nu.hid hb1'
              clear hseen hnf hbi hb hrz1 hb1'
              go_wp2
              go_roundw
              case rel => exact ⟨i + 1, us, by omega, by go_num, by rw [HN.out]; exact HR2.out, HB2.out⟩
              case measure => simp [intOf]; omega
            | false =>
              have hnf : Ku.First es HV.out i := Classical.byContradiction fun h => by have := hseen.2 h; cases this
              have HN : Hid (Ku.rows es HV.out (i + 1) = Ku.rows es HV.out i ++ [Ku.ZL (Ku.vs (Ku.gs es HV.out) (Ku.ch es HV.out i))]) := Ku.rows_yes hnf
              have HCH := Nu.hid (kchain_any m ao cap es (some ⟨gd, 0, none⟩) m U1 HV.out (HE1.out.later hb1') (HDI.out.later hb1') i hlt)
              obtain ⟨r0, r1, -⟩ := pair_cells (blk_later15 HG1.out hb1')
              have HR2 := Nu.hid hrz1
              have HB2 := Nu.hid hb1'
              clear hseen hnf hbi hb hrz1 hb1'
              go_wp2_with (go_at_call 27; refine HCH.out.mono ?_; rintro e U2 ⟨v, rfl, ho, hb2⟩; refine Hid.out ?_)
              refine Nu.hid ?_
              obtain ⟨xa, xc, hve, -, -⟩ := ho.form
              obtain ⟨Lc, hLc⟩ : ∃ Lc, (Ku.ZL (Ku.vs (Ku.gs es HV.out) (Ku.ch es HV.out i))).length = Lc := ⟨_, rfl⟩
              rw [hLc] at hve
              subst hve
              have hr2 := HR2.out.later hb2
              have hout := hr2.outer
              rw [HJ.out] at hout
              have HOUT := Nu.hid hout
              have HRU := Nu.hid hr2
              have HO := Nu.hid ho
              have HB3 := Nu.hid (HB2.out.trans (hb2.mono HB2.out.size))
              have hs2 := HB3.out.size
              have hsu := hb2.size
              have HWT : Hid (∀ b', ((Value.slice va k vc).ownBlock = some b' ∨ ∃ (u : Nat) (y : Value), us[u]? = some y ∧ y.ownBlock = some b') → b' < U1.heap.size) := fun b' hb' => by
                rcases hb' with hb' | ⟨u, y, hy, hb'⟩
                · exact (World.ownsRow.lt HR2.out.outer b' hb').2
                · obtain ⟨l', hl'⟩ := HR2.out.at hy
                  exact (World.ownsRow.lt (HR2.out.row u y l' hy hl') b' hb').2
              clear hr2 hout ho hb2 r0 r1 hLc
              go_wp2_with (at_builtin; refine wpList_append_own_at _ rfl _ _ 26 rfl w1.heap.size 36 iR (.slice none 0 0) 1 24 Try.underlying26 hiR hR0 hR1 hR2 rfl (by decide) _ _ _ rfl (World.ownsRow.alloc HOUT.out _) ⟨U2.heap.size, 0, none⟩ 1 1 [.slice xa Lc xc] rfl rfl (cell_one_new _ _ _) (by simp [Value.oneCell']) (by unfold maxLen; omega) (by omega) (by simp; omega) ?_; refine Hid.out ?_)
              refine Nu.hid ?_
              intro v' w4 hown4 hgrow4 _ hat4
              have hat4' : v'.ownBlock = (Value.slice va k vc).ownBlock ∨ v'.ownBlock = some (U2.heap.size + 1) := by simpa using hat4
              have hR4 := HRU.out.grow (x := .slice xa Lc xc) (l := Ku.ZL (Ku.vs (Ku.gs es HV.out) (Ku.ch es HV.out i))) (v' := v') (HO.out.lower HB2.out.size) (fun u y b' hy hyb e => by
                have a1 := HWT.out b' (.inr ⟨u, y, hy, hyb⟩)
                have a2 := (World.ownsRow.lt HO.out b' e).1
                omega) (fun b' hb' e => by
                have a1 := HWT.out b' (.inl hb')
                have a2 := (World.ownsRow.lt HO.out b' e).1
                omega) (by rw [HJ.out]; exact hown4) hgrow4 hat4'
              have hbel4 : Below w1.heap.size w1 w4 := ((HB3.out.trans (((Below.refl U2.heap.size U2).alloc (Nat.le_refl _) _).mono HB3.out.size)).grown hgrow4 (by simp; omega) (fun j hj => (World.ownsRow.lt HR2.out.outer j hj).1))
              have HR4 := Nu.hid hR4
              have HBL4 := Nu.hid hbel4
              clear hown4 hgrow4 hat4 hat4' hR4 hbel4
              go_wp2
              go_roundw
              case rel => exact ⟨i + 1, _, by omega, by go_num, by rw [HN.out]; exact HR4.out, HBL4.out⟩
              case measure => simp [intOf]; omega
      · have hd : ¬ ((i : Int) < (es.length : Int)) := by omega
        obtain rfl : i = es.length := by omega
        clear hrz hb hJ
        go_wp2
        go_ret2
        exact ⟨.inr ⟨HV.out, _, us, rfl, HRZ.out.lower (by omega)⟩, HBW1.out.trans (HB.out.mono HBW1.out.size)⟩
  · have HV := Nu.hid hv
    clear hv hb1 q0 q1
    go_wp2
    go_ret2
    exact ⟨.inl ⟨HV.out, rfl⟩, HBW1.out⟩

end Go.Proofs.Ytdhaaodalchpkaa
