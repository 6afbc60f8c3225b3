/-
  Proved: for every graph the law KuraChainsPart answers true, and the graph reads afterwards as before. No condition.
-/
import Derived.Test.YtdhaaodalchpkaaKwG
import Derived.Test.YtdhaaodalchpkaaMgO
import Derived.Test.YtdhaaodalchpkaaLwQ
import Derived.Test.YtdhaaodalchpkaaSiGin
import Derived.Test.YtdhaaodalchpkaaMgF
namespace Go.Proofs.Ytdhaaodalchpkaa
open Go.ChangeShapes Go.WideShapes Go.ChangeAt Go.RowKit
namespace lawKuP

theorem kc_yes {n : Int} {es : List (Int × Int)} (hv : Si.Val n es) : Ku.kc n es = (Ku.rows es hv es.length, 0) := dif_pos hv
theorem kc_no {n : Int} {es : List (Int × Int)} (h : Si.valid n es = false) : Ku.kc n es = ([], 1) := by
  have hn : ¬ Si.Val n es := fun h' => by rw [Si.valid_iff.2 h'] at h; cases h
  exact dif_neg hn

/-- What is so of the t-th chain, for its walk. -/
structure Seen (es : List (Int × Int)) {n : Int} (hv : Si.Val n es) (l : List Nat) (f f' : Nat → Bool) (i y : Nat) : Prop where
  iff : ∀ x, f' x = true ↔ (f x = true ∨ ∃ j h, j < i ∧ l[j]? = some h ∧ h / 2 = x)
  le : y ≤ es.length
  low : ∀ j h, j < i → l[j]? = some h → y ≤ h / 2
  at_ : y = es.length ∨ ∃ j h, j < i ∧ l[j]? = some h ∧ h / 2 = y
theorem Seen.start {es : List (Int × Int)} {n : Int} {hv : Si.Val n es} {l : List Nat} {f : Nat → Bool} : Seen es hv l f f 0 es.length := ⟨fun x => ⟨.inl, fun h => by
    rcases h with h | ⟨j, h, hj, _⟩
    · exact h
    · omega⟩, Nat.le_refl _, fun j h hj => by omega, .inl rfl⟩
theorem Seen.step {es : List (Int × Int)} {n : Int} {hv : Si.Val n es} {l : List Nat} {f f' : Nat → Bool} {i y x h : Nat} (s : Seen es hv l f f' i y) (hx : l[i]? = some h) (he : h / 2 = x) {y' : Nat} (hy : y' = min y x) : Seen es hv l f (Co.updB f' x true) (i + 1) y' := by
  refine ⟨fun z => ?_, by have := s.le; omega, fun j k hj hk => ?_, ?_⟩
  · unfold Co.updB
    by_cases e : z = x
    · subst e
      simp only [if_true, true_iff]
      exact .inr ⟨i, h, by omega, hx, he⟩
    · rw [if_neg e, s.iff z]
      constructor
      · rintro (h1 | ⟨j, k, h1, h2, h3⟩)
        · exact .inl h1
        · exact .inr ⟨j, k, by omega, h2, h3⟩
      · rintro (h1 | ⟨j, k, h1, h2, h3⟩)
        · exact .inl h1
        · by_cases hj : j = i
          · subst hj
            rw [hx] at h2
            cases h2
            omega
          · exact .inr ⟨j, k, by omega, h2, h3⟩
  · by_cases hji : j = i
    · subst hji
      rw [hx] at hk
      cases hk
      omega
    · have := s.low j k (by omega) hk
      omega
  · by_cases hyx : x ≤ y
    · exact .inr ⟨i, h, by omega, hx, by omega⟩
    · rcases s.at_ with h1 | ⟨j, k, h1, h2, h3⟩
      · have := s.le
        refine .inl ?_
        omega
      · exact .inr ⟨j, k, by omega, h2, by omega⟩
/-- The least edge of a whole chain. -/
theorem Seen.last {es : List (Int × Int)} {n : Int} {hv : Si.Val n es} {l : List Nat} {f f' : Nat → Bool} {y e : Nat} (s : Seen es hv l f f' l.length y) (he : e < es.length) (hf : Ku.First es hv e) (hl : l = Ku.ch es hv e) : y = e := by
  have hb := (Ku.ch_ok (hv := hv) he).2
  rw [← hl] at hb
  obtain ⟨h, hm, hh⟩ := hb
  obtain ⟨j, hj⟩ := List.getElem?_of_mem hm
  have h1 := s.low j h (List.getElem?_eq_some_iff.1 hj).1 hj
  rcases s.at_ with h2 | ⟨j', h', _, h3, h4⟩
  · omega
  · have := hf y (by rw [← hl]; exact ⟨h', List.mem_of_getElem? h3, h4⟩)
    omega
/-- It is not seen yet. -/
theorem Seen.fresh {es : List (Int × Int)} {n : Int} {hv : Si.Val n es} {l : List Nat} {f f' : Nat → Bool} {i y x h e t : Nat} (s : Seen es hv l f f' i y) (hf : ∀ x, f x = true ↔ ∃ l' ∈ (Ku.chs es hv es.length).take t, Ku.By l' x) (he : e < es.length) (hfi : Ku.First es hv e) (hl : l = Ku.ch es hv e) (ht : (Ku.chs es hv es.length).take t = Ku.chs es hv e) (hx : l[i]? = some h) (hh : h / 2 = x) : f' x = false := by
  rw [← Bool.not_eq_true, s.iff]
  rintro (h1 | ⟨j, k, h1, h2, h3⟩)
  · obtain ⟨l', hm, hb⟩ := (hf x).1 h1
    rw [ht] at hm
    exact Ku.first_free he hfi (by rw [← hl]; exact ⟨h, List.mem_of_getElem? hx, hh⟩) ⟨l', hm, hb⟩
  · have c : Ku.Cn (Ku.gs es hv) l := by rw [hl]; exact (Ku.ch_ok he).1
    exact Ku.once c h1 h2 hx (h3.trans hh.symm)

set_option maxRecDepth 100000 in
set_option maxHeartbeats 32000000 in
theorem walk (n : Int) (ao : Option Addr) (ca : Nat) (es : List (Int × Int)) (w : World) (_ : -9223372036854775808 ≤ n ∧ n ≤ 9223372036854775807) (hq : PairsIn w ao es.length ca es) (hle : es.length * 16 ≤ 140737488351232) :
    Calls Try.prog 5 #[.agg #[.int .i64 n, .slice ao es.length ca]] w fun e w' => e = .returned (.bool true) ∧ Below w.heap.size w w' := by
  have HG0 : Hid (Gr15 w n ao ca es _) := Nu.hid (.start hq.hat)
  have HP : Hid (∀ a c W, EdgesAt W a es → Calls Try.prog 9 #[.agg #[.int .i64 n, .slice a es.length c]] W (Ku.KcP (Ku.kc n es) W)) := fun a c W h => pchains_is n a c es W h (by omega)
  obtain ⟨⟨R, z⟩, hr⟩ : ∃ r, Ku.kc n es = r := ⟨_, rfl⟩
  rw [hr] at HP
  have HKC := Nu.hid hr
  unfold Ku.KcP at HP
  dsimp only at HP
  obtain ⟨J, hJ⟩ : ∃ J, R.length = J := ⟨_, rfl⟩
  rw [hJ] at HP
  have HJ := Nu.hid hJ
  have hle' : es.length * 16 ≤ 140737488355328 := by omega
  clear hq hr hJ
  go_enter Try.func5, Try.ntmps5
  go_wp2_with (go_at_call 8; refine (wakes15_any _).mono ?_; rintro e w1 ⟨rfl, hb⟩; refine Hid.out ?_)
  refine Nu.hid ?_
  have G1 := Nu.hid (HG0.out.later hb)
  obtain ⟨x0, x1⟩ := G1.out.cells
  clear hb HG0
  go_wp2_with (first
    | (go_at_call 10; refine (G1.out.copy hle').mono ?_; rintro e w2 ⟨a2, c2, rfl, he2, hb2⟩; have HE := Nu.hid he2; have G2 := Nu.hid (G1.out.later hb2); clear he2 hb2)
    | (go_at_call 9; refine (HP.out _ _ _ HE.out).mono ?_; rintro e w3 ⟨a3, c3, rfl, hs3, hb3⟩; have HL := Nu.hid hs3; have G3 := Nu.hid (G2.out.later hb3); clear hs3 hb3; refine Hid.out ?_))
  refine Nu.hid ?_
  clear x0 x1 HE G1 G2
  obtain ⟨x0, x1⟩ := G3.out.cells
  have HDG := Nu.hid (rdegrees_any n ao ca es w3 G3.out.edges (by omega))
  go_wp2_with (go_at_call 16; refine HDG.out.mono ?_; refine Hid.out ?_)
  refine Nu.hid ?_
  rintro e V ⟨hcase, hb4⟩
  have GV := Nu.hid (G3.out.later hb4)
  have HLV := Nu.hid (HL.out.later hb4)
  clear x0 x1 HDG G3 HL
  obtain ⟨x0, x1⟩ := GV.out.cells
  rcases hcase with ⟨hv, gd, m, rfl, rfl, hgd, hdi⟩ | ⟨hv, rfl⟩
  · have hval : Si.Val (m : Int) es := Si.valid_iff.1 hv
    have hk := HKC.out
    rw [kc_yes hval] at hk
    cases hk
    have HJ2 : Hid ((Ku.chs es hval es.length).length = J) := by rw [← Ku.rows_length]; exact HJ
    have hm : m ≤ 1048576 := by have := hval.hi; omega
    have hfew := hval.few
    have hJm : J ≤ es.length := by have := Ku.chs_length (es := es) (hv := hval) es.length; rw [HJ2.out] at this; exact this
    obtain ⟨M, hM⟩ : ∃ M, es.length = M := ⟨_, rfl⟩
    rw [hM] at x1 hfew hJm
    have HM := Nu.hid hM
    obtain ⟨W0, hW0⟩ : ∃ W0, W0 = V.alloc (.cells (madeCells #[.bool false] M) 4) := ⟨_, rfl⟩
    have hb0 : Below V.heap.size V W0 := by rw [hW0]; exact (Below.refl _ _).alloc (Nat.le_refl _) _
    have hf0 : BoolsIn W0 V.heap.size M (fun _ => false) := by rw [hW0]; exact made_bools rfl _
    have HREAD : Hid (∀ U : World, Below V.heap.size V U → (U.cell? ⟨w.heap.size, 0, none⟩ = some (.int .i64 (m : Int)) ∧ U.cell? ⟨w.heap.size, 1, none⟩ = some (.slice ao M ca)) ∧ EdgesAt U ao es ∧ Ku.SeesL U (.slice a3 J c3) (Ku.rows es hval es.length) ∧ (∀ v : Nat, v < m → U.cell? ⟨gd, v, none⟩ = some (.int .i64 (Ku.dg es v : Int))) ∧ Below w.heap.size w U) := fun U hU => by
      have h1 := GV.out.later hU
      obtain ⟨y0, y1⟩ := h1.cells
      rw [hM] at y1
      refine ⟨⟨y0, y1⟩, h1.edges, ?_, fun v hv' => ?_, h1.low⟩
      · have := HLV.out.later hU
        exact this
      · have hd := Cs.degs_out hval es.length (Nat.le_refl _) v hv'
        rw [List.take_length] at hd
        exact (hdi.later hU).cell hd
    have HVAL := Nu.hid hval
    have HW0 := Nu.hid hW0
    have HB0 := Nu.hid hb0
    have HF0 := Nu.hid hf0
    have hmi : (M : Int) ≤ 9223372036854775807 := by omega
    have hmi0 : (0 : Int) ≤ (M : Int) := by omega
    obtain ⟨ib, hib, hbz0, hbz1, hbz2⟩ := info_parts Try.infoBool
    have hmk : (Instr.makeSlice 46 (.int .i64 (M : Int)) (.int .i64 (M : Int))).run Try.prog V = .ok (.slice (some ⟨V.heap.size, 0, none⟩) M M) (V.alloc (.cells (madeCells #[.bool false] M) 4)) := by
      have := run_make (P := Try.prog) V 46 4 ib (.bool false) Try.underlying46 hib hbz0 .i64 .i64 (M : Int) (M : Int) (by omega) (Int.le_refl _) (by rw [hbz2]; omega) (by omega)
      rw [this, hbz1]
      simp [Value.cells]
    clear hv hdi hb4 hW0 hb0 hf0 hM hgd
    go_wp2_with fail
    rw [← HW0.out]
    clear x0 x1 hmk
    go_loopw [8, 9, 10] (fun nv lv cv wr => ∃ (t : Nat) (f : Nat → Bool) (z : Int) (k : Nat), t ≤ J ∧ nv = .int .i64 (k : Int) ∧ lv = .int .i64 z ∧ cv = .int .i64 (t : Int) ∧ k = Co.cntTo f M ∧ BoolsIn wr V.heap.size M f ∧ Below V.heap.size V wr ∧ (∀ x, f x = true ↔ ∃ l' ∈ (Ku.chs es HVAL.out es.length).take t, Ku.By l' x) ∧ (∀ e l, (Ku.chs es HVAL.out es.length)[t]? = some l → l = Ku.ch es HVAL.out e → e < es.length → Ku.First es HVAL.out e → z < (e : Int))) (fun _ _ cv _ => J - (intOf cv).toNat)
    case atStart => exact ⟨0, fun _ => false, -1, 0, Nat.zero_le _, rfl, rfl, rfl, (Ku.cnt_none fun _ _ => rfl).symm, HF0.out, HB0.out, fun x => ⟨fun h => (by cases h), fun ⟨l', h, _⟩ => (by simp at h)⟩, fun e l _ _ _ _ => by omega⟩
    case round =>
      obtain ⟨t, f, z, k, htJ, rfl, rfl, rfl, hkc, hbo, hb, hiff, hz⟩ := hrel
      obtain ⟨U, rfl⟩ : ∃ U, U = wr := ⟨wr, rfl⟩
      have HB := Nu.hid hb
      have HBO := Nu.hid hbo
      have HIFF := Nu.hid hiff
      have hkM : k ≤ M := by rw [hkc]; exact Co.cntTo_le f M
      have HKC2 := Nu.hid hkc
      have hwt : IntKind.i64.wrap ((t : Int) + 1) = (t : Int) + 1 := by rw [IntKind.wrap_i64]; omega
      by_cases hlt : t < J
      · have hlti : (t : Int) < (J : Int) := by omega
        have ht0 : (0 : Int) ≤ (t : Int) := by omega
        obtain ⟨l, hl⟩ : ∃ l, (Ku.chs es HVAL.out es.length)[t]? = some l := ⟨_, List.getElem?_eq_getElem (by rw [HJ2.out]; exact hlt)⟩
        obtain ⟨e, he1, he2, he3, he4⟩ := Ku.chs_nth (Nat.le_refl _) hl
        have hcn : Ku.Cn (Ku.gs es HVAL.out) l := by rw [he3]; exact (Ku.ch_ok he1).1
        have HZ := Nu.hid (hz e l hl he3 he1 he2)
        have hrow : (Ku.rows es HVAL.out es.length)[t]? = some (Ku.ZL (Ku.vs (Ku.gs es HVAL.out) l)) := by
          unfold Ku.rows
          rw [List.getElem?_map, hl]
          rfl
        obtain ⟨L, hL⟩ : ∃ L, l.length = L := ⟨_, rfl⟩
        have hLp : 0 < L := by rw [← hL]; exact Ku.pos_of hcn.ne
        have hLm : L ≤ 2 * M := by have := Ku.cn_few hcn; rw [hL, HM.out] at this; exact this
        obtain ⟨C, hC⟩ : ∃ C, C = L + 1 := ⟨_, rfl⟩
        have hcl : (Ku.ZL (Ku.vs (Ku.gs es HVAL.out) l)).length = C := by rw [Ku.ZL_length, Ku.vs_length hcn.ne, hL, hC]
        obtain ⟨⟨x0, x1⟩, -, -, -, -⟩ := HREAD.out U hb
        obtain ⟨-, -, hsl, -, -⟩ := HREAD.out V (Below.refl _ _)
        obtain ⟨aa, cc, eq1, hrr⟩ := hsl
        cases eq1
        obtain ⟨b3, o3, xv, rfl, hxc, sa, sc, rfl, hints⟩ := hrr t _ hrow
        rw [hcl] at hxc
        obtain ⟨h0, hh0⟩ : ∃ h0, l[0]? = some h0 := ⟨_, List.getElem?_eq_getElem (by omega)⟩
        obtain ⟨cb, co, rfl, -⟩ := hints 0 _ (Ku.vs_fr hcn hh0).1
        have HCELL : Hid (∀ (X : World) (i : Nat) (v : Int), Below V.heap.size V X → (Ku.ZL (Ku.vs (Ku.gs es HVAL.out) l))[i]? = some v → X.cell? ⟨cb, co + i, none⟩ = some (.int .i64 v)) := fun X i v hX hi => by
          obtain ⟨b', o', e', hc⟩ := hints i v hi
          cases e'
          exact (hX.cell (p := ⟨cb, co + i, none⟩) (block_lt_of_cell hc)).trans hc
        have hxu : U.cell? ⟨b3, o3 + t, none⟩ = some (.slice (some ⟨cb, co, none⟩) C sc) := (hb.cell (p := ⟨b3, o3 + t, none⟩) (block_lt_of_cell hxc)).trans hxc
        have c2 : ¬ ((C : Int) < 2) := by omega
        have HCN := Nu.hid hcn
        have HL := Nu.hid hL
        have HLL := Nu.hid hl
        have HE3 := Nu.hid he3
        have HE2 := Nu.hid he2
        have HE4 := Nu.hid he4
        have HE1 := Nu.hid he1
        have HC := Nu.hid hC
        have hCM : C ≤ 8388609 := by omega
        clear hiff hz hbo hb hkc hxc hrr hrow hcl hints hl he3 he2 he4 he1 hcn hL hh0 h0
        go_wp2_with fail
        clear x0 x1 hxu
        go_loopw [8, 12, 13] (fun nv yv cv wr => ∃ (i ig y k : Nat) (f' : Nat → Bool), i ≤ L ∧ ig = i + 1 ∧ nv = .int .i64 (k : Int) ∧ yv = .int .i64 (y : Int) ∧ cv = .int .i64 (ig : Int) ∧ k = Co.cntTo f' M ∧ BoolsIn wr V.heap.size M f' ∧ Below V.heap.size V wr ∧ Seen es HVAL.out l f f' i y) (fun _ _ cv _ => C - (intOf cv).toNat)
        case atStart => exact ⟨0, 1, M, k, f, Nat.zero_le _, rfl, rfl, rfl, rfl, HKC2.out, HBO.out, HB.out, by have := Seen.start (es := es) (hv := HVAL.out) (l := l) (f := f); rw [HM.out] at this; exact this⟩
        case round =>
          obtain ⟨i, ig, y, k, f', hiL, hig, rfl, rfl, rfl, hkc, hbo, hb, hse⟩ := hrel
          obtain ⟨X, rfl⟩ : ∃ X, X = wr := ⟨wr, rfl⟩
          have HSE := Nu.hid hse
          have HB2 := Nu.hid hb
          have HBO2 := Nu.hid hbo
          have HKC3 := Nu.hid hkc
          have HIG := Nu.hid hig
          have hkM2 : k ≤ M := by rw [hkc]; exact Co.cntTo_le f' M
          have hyM : y ≤ M := by have := hse.le; rw [HM.out] at this; exact this
          have hCL := HC.out
          by_cases hi : i < L
          · have hgi : (ig : Int) < (C : Int) := by omega
            have hg1 : (ig : Int) - 1 = (i : Int) := by omega
            have hwi : IntKind.i64.wrap (i : Int) = (i : Int) := by rw [IntKind.wrap_i64]; omega
            have hi0 : (0 : Int) ≤ (i : Int) := by omega
            have hi1 : (i : Int) < (C : Int) := by omega
            have hig0 : (0 : Int) ≤ (ig : Int) := by omega
            have hwg : IntKind.i64.wrap ((ig : Int) + 1) = (ig : Int) + 1 := by rw [IntKind.wrap_i64]; omega
            obtain ⟨h, hh⟩ : ∃ h, l[i]? = some h := ⟨_, List.getElem?_eq_getElem (by rw [HL.out]; exact hi)⟩
            have hhl : h < 2 * es.length := HCN.out.lt h (List.mem_of_getElem? hh)
            obtain ⟨ev1, ev2⟩ := Ku.vs_fr HCN.out hh
            have HON : Hid (∀ D : LW X, Calls Try.prog 17 #[.agg #[.int .i64 (m : Int), .slice ao M ca], .int .i64 (Cs.fr es h : Int), .int .i64 (Cs.to es h : Int)] D.val fun e w' => e = .returned (.int .i64 ((h / 2 : Nat) : Int)) ∧ Below D.val.heap.size D.val w') := fun D => by
              have hD : Below V.heap.size V D.val := hb.trans (D.h.mono hb.size)
              have := on15_any (m : Int) ao ca es h D.val (HREAD.out D.val hD).2.1 HVAL.out hhl
              rw [HM.out] at this
              exact this
            have HTM : Cs.to es h < m := (Cs.half_lt HVAL.out hhl).2
            have HFRESH := Nu.hid (hse.fresh HIFF.out HE1.out HE2.out HE3.out HE4.out hh rfl)
            have HXM : h / 2 < M := by have h1 := hhl; rw [HM.out] at h1; omega
            have HDEG : Hid (i + 1 < L → Ku.dg es (Cs.to es h) = 2) := fun h1 => Ku.inner_two HCN.out hh (by rw [HL.out]; exact h1)
            have HSTEP : Hid (∀ y', y' = min y (h / 2) → Seen es HVAL.out l f (Co.updB f' (h / 2) true) (i + 1) y') := fun y' hy' => hse.step hh rfl hy'
            obtain ⟨fa, hfa⟩ : ∃ fa, Cs.fr es h = fa := ⟨_, rfl⟩
            obtain ⟨ta, hta⟩ : ∃ ta, Cs.to es h = ta := ⟨_, rfl⟩
            obtain ⟨x, hx⟩ : ∃ x, h / 2 = x := ⟨_, rfl⟩
            rw [hfa] at HON ev1
            rw [hta] at HON ev2 HDEG HTM
            rw [hx] at HON HFRESH HXM HSTEP
            have HRD : Hid (∀ D : LW X, Below V.heap.size V D.val) := fun D => HB2.out.trans (D.h.mono HB2.out.size)
            have X0 : ∀ D : LW X, D.val.cell? ⟨w.heap.size, 0, none⟩ = some (.int .i64 (m : Int)) := fun D => (HREAD.out D.val (HRD.out D)).1.1
            have X1 : ∀ D : LW X, D.val.cell? ⟨w.heap.size, 1, none⟩ = some (.slice ao M ca) := fun D => (HREAD.out D.val (HRD.out D)).1.2
            have X2 : ∀ D : LW X, D.val.cell? ⟨cb, co + i, none⟩ = some (.int .i64 (fa : Int)) := fun D => HCELL.out D.val i _ (HRD.out D) ev1
            have X3 : ∀ D : LW X, D.val.cell? ⟨cb, co + ig, none⟩ = some (.int .i64 (ta : Int)) := fun D => HCELL.out D.val ig _ (HRD.out D) (by rw [HIG.out]; exact ev2)
            have HX3 := Nu.hid X3
            have hne := LW.any X
            clear hse hb hbo hkc hig hh hhl ev1 ev2 hfa hta hx hCL
            go_wp2_with fail
            refine wp_region_lw (by kernel_rfl) (by kernel_rfl) ?_
            repeat (go_big_quiet_step ((first | (go_at_call 17; exact Calls.lw (HON.out _)))))
            refine wpQuiet_nil ?_
            rintro _ ⟨D, rfl⟩
            obtain ⟨Y, hY⟩ : ∃ Y, D.val = Y := ⟨_, rfl⟩
            have hbY : Below V.heap.size V Y := by rw [← hY]; exact HRD.out D
            have hboY : BoolsIn Y V.heap.size M f' := by rw [← hY]; exact HBO2.out.later D.h
            have hx3 : Y.cell? ⟨cb, co + ig, none⟩ = some (.int .i64 (ta : Int)) := by rw [← hY]; exact HX3.out D
            rw [hY]
            clear X0 X1 X2 X3 hne hY
            have hc1 := hboY.cell HXM
            rw [HFRESH.out] at hc1
            have hfz := hboY.free x
            have hxn : ¬ ((x : Int) < 0) := by omega
            have hx0 : (0 : Int) ≤ (x : Int) := by omega
            have hxM : (x : Int) < (M : Int) := by omega
            have hwk : IntKind.i64.wrap ((k : Int) + 1) = (k : Int) + 1 := by rw [IntKind.wrap_i64]; omega
            have HSET := Nu.hid (hboY.set x true)
            have HBS : Hid (Below V.heap.size V (Y.setCell ⟨V.heap.size, x, none⟩ (.bool true))) := hbY.setCell (p := ⟨V.heap.size, x, none⟩) (Nat.le_refl _) _
            have HCNT : Hid (k + 1 = Co.cntTo (Co.updB f' x true) M) := by
              rw [Ku.cnt_put HFRESH.out HXM, ← HKC3.out]
              exact Nu.hid rfl
            have hdg := (HREAD.out Y hbY).2.2.2.1 ta HTM
            have HYX : Hid (∃ y' : Nat, y' = min y x ∧ (y' : Int) = min (y : Int) (x : Int)) := ⟨min y x, rfl, by omega⟩
            by_cases hin : i + 1 < L
            · rw [HDEG.out hin] at hdg
              have hgg : (ig : Int) + 1 < (C : Int) := by have := HIG.out; omega
              have hta0 : (0 : Int) ≤ (ta : Int) := by omega
              have htam : (ta : Int) < (m : Int) := by omega
              clear hboY hbY
              go_wp2
              go_roundw
              case rel =>
                refine ⟨i + 1, ig + 1, min y x, k + 1, _, by omega, by have := HIG.out; omega, by go_num, ?_, by go_num, HCNT.out, HSET.out, HBS.out, HSTEP.out _ rfl⟩
                first | (congr 1; omega) | (congr 1; split <;> omega)
              case measure => simp [intOf]; omega
            · have hgg : ¬ ((ig : Int) + 1 < (C : Int)) := by have h1 := HIG.out; have h2 := HC.out; omega
              clear hboY hbY hdg
              go_wp2
              go_roundw
              case rel =>
                refine ⟨i + 1, ig + 1, min y x, k + 1, _, by omega, by have := HIG.out; omega, by go_num, ?_, by go_num, HCNT.out, HSET.out, HBS.out, HSTEP.out _ rfl⟩
                first | (congr 1; omega) | (congr 1; split <;> omega)
              case measure => simp [intOf]; omega
          · obtain rfl : i = L := by omega
            have hgi : ¬ ((ig : Int) < (C : Int)) := by omega
            have hye : y = e := by
              have h1 := hse
              rw [← HL.out] at h1
              exact h1.last HE1.out HE2.out HE3.out
            have HIF2 : Hid (∀ x, f' x = true ↔ ∃ l' ∈ (Ku.chs es HVAL.out es.length).take (t + 1), Ku.By l' x) := by
              refine Nu.hid fun x => ?_
              have htk : (Ku.chs es HVAL.out es.length).take (t + 1) = (Ku.chs es HVAL.out es.length).take t ++ [l] := by
                rw [List.take_add_one, HLL.out]
                rfl
              rw [hse.iff x, HIFF.out x, htk]
              constructor
              · rintro (⟨l', h1, h2⟩ | ⟨j, h, h1, h2, h3⟩)
                · exact ⟨l', List.mem_append_left _ h1, h2⟩
                · exact ⟨l, by simp, h, List.mem_of_getElem? h2, h3⟩
              · rintro ⟨l', h1, h2⟩
                rcases List.mem_append.1 h1 with h1 | h1
                · exact .inl ⟨l', h1, h2⟩
                · rw [List.mem_singleton.1 h1] at h2
                  obtain ⟨h, h3, h4⟩ := h2
                  obtain ⟨j, hj⟩ := List.getElem?_of_mem h3
                  exact .inr ⟨j, h, by rw [← HL.out]; exact (List.getElem?_eq_some_iff.1 hj).1, hj, h4⟩
            have HLS2 : Hid (∀ e' l', (Ku.chs es HVAL.out es.length)[t + 1]? = some l' → l' = Ku.ch es HVAL.out e' → e' < es.length → Ku.First es HVAL.out e' → (y : Int) < (e' : Int)) := by
              refine Nu.hid fun e' l' h1 h2 h3 h4 => ?_
              have := Ku.chs_rise HLL.out h1 HE1.out h3 HE2.out h4 HE3.out h2
              omega
            have hzy : z < (y : Int) := by rw [hye]; exact HZ.out
            obtain ⟨h0, hh0⟩ : ∃ h0, l[0]? = some h0 := ⟨_, List.getElem?_eq_getElem (by rw [HL.out]; exact hLp)⟩
            obtain ⟨i1, hi1⟩ : ∃ i1, i = i1 + 1 := ⟨i - 1, by omega⟩
            obtain ⟨hl, hhl⟩ : ∃ hl, l[i1]? = some hl := ⟨_, List.getElem?_eq_getElem (by rw [HL.out]; omega)⟩
            have ea := (Ku.vs_fr HCN.out hh0).1
            have e1' := (Ku.vs_fr HCN.out hh0).2
            have eb := (Ku.vs_fr HCN.out hhl).2
            have e2' := (Ku.vs_fr HCN.out hhl).1
            have ham : Cs.fr es h0 < m := (Cs.half_lt HVAL.out (HCN.out.lt h0 (List.mem_of_getElem? hh0))).1
            have hbm : Cs.to es hl < m := (Cs.half_lt HVAL.out (HCN.out.lt hl (List.mem_of_getElem? hhl))).2
            have hE := Ku.chain_ends HCN.out (Ku.gI_at ea) (b := (Cs.to es hl : Int)) (by rw [HL.out, hi1]; exact Ku.gI_at eb)
            rw [HL.out, show i - 1 = i1 by omega, Ku.gI_at e1', Ku.gI_at e2', Int.toNat_natCast, Int.toNat_natCast] at hE
            obtain ⟨-, -, E1, E2, E3, E4⟩ := hE
            obtain ⟨an, han⟩ : ∃ an, Cs.fr es h0 = an := ⟨_, rfl⟩
            obtain ⟨bn, hbn⟩ : ∃ bn, Cs.to es hl = bn := ⟨_, rfl⟩
            obtain ⟨p1, hp1⟩ : ∃ p1, (Cs.to es h0 : Int) = p1 := ⟨_, rfl⟩
            obtain ⟨p2, hp2⟩ : ∃ p2, (Cs.fr es hl : Int) = p2 := ⟨_, rfl⟩
            rw [han] at ea ham E1 E2 E3 E4
            rw [hbn] at eb hbm E1 E2 E3 E4
            rw [hp1] at e1' E2
            rw [hp2] at e2' E2
            have HRD : Hid (∀ D : LW X, Below V.heap.size V D.val) := fun D => HB2.out.trans (D.h.mono HB2.out.size)
            have A0 : ∀ D : LW X, D.val.cell? ⟨cb, co, none⟩ = some (.int .i64 (an : Int)) := fun D => HCELL.out D.val 0 _ (HRD.out D) ea
            have A1 : ∀ D : LW X, D.val.cell? ⟨cb, co + i, none⟩ = some (.int .i64 (bn : Int)) := fun D => HCELL.out D.val i _ (HRD.out D) (by rw [hi1]; exact eb)
            have HPS : Hid (∀ Z : World, Below V.heap.size V Z → Z.cell? ⟨cb, co + 1, none⟩ = some (.int .i64 p1) ∧ Z.cell? ⟨cb, co + i1, none⟩ = some (.int .i64 p2) ∧ Z.cell? ⟨gd, an, none⟩ = some (.int .i64 (Ku.dg es an : Int)) ∧ Z.cell? ⟨gd, bn, none⟩ = some (.int .i64 (Ku.dg es bn : Int))) := fun Z hZ => ⟨HCELL.out Z 1 _ hZ e1', HCELL.out Z i1 _ hZ e2', (HREAD.out Z hZ).2.2.2.1 an ham, (HREAD.out Z hZ).2.2.2.1 bn hbm⟩
            have HALL : Hid (∀ (Z : World) (j : Nat), Below V.heap.size V Z → j < C → ∃ v : Int, Z.cell? ⟨cb, co + j, none⟩ = some (.int .i64 v) ∧ ((an : Int) = (bn : Int) → Ku.dg es an = 2 → (an : Int) ≤ v)) := fun Z j hZ hj => by
              have hlt : j < (Ku.ZL (Ku.vs (Ku.gs es HVAL.out) l)).length := by
                rw [Ku.ZL_length, Ku.vs_length HCN.out.ne, HL.out]
                omega
              refine ⟨_, HCELL.out Z j _ hZ (List.getElem?_eq_getElem hlt), fun h1 h2 => ?_⟩
              have := E4 h1 h2 j (by omega)
              rw [Ku.gI_at (List.getElem?_eq_getElem hlt)] at this
              exact this
            have hC1 : (C : Int) - 1 = (i : Int) := by omega
            have hC2 : (C : Int) - 2 = (i1 : Int) := by omega
            have hwi : IntKind.i64.wrap (i : Int) = (i : Int) := by rw [IntKind.wrap_i64]; omega
            have hwi1 : IntKind.i64.wrap (i1 : Int) = (i1 : Int) := by rw [IntKind.wrap_i64]; omega
            have hi0 : (0 : Int) ≤ (i : Int) := by omega
            have hiC : (i : Int) < (C : Int) := by omega
            have hi10 : (0 : Int) ≤ (i1 : Int) := by omega
            have hi1C : (i1 : Int) < (C : Int) := by omega
            have hC0 : (0 : Int) < (C : Int) := by omega
            have hC11 : (1 : Int) < (C : Int) := by omega
            have HBO3 : Hid (∀ D : LW X, BoolsIn D.val V.heap.size M f') := fun D => HBO2.out.later D.h
            have hne := LW.any X
            clear hse hb hbo hkc hig hh0 hhl ea eb e1' e2' han hbn hp1 hp2 E4 hye hCL HSE hi1
            go_wp2_with fail
            refine wp_region_lw (by kernel_rfl) (by kernel_rfl) ?_
            repeat (go_big_quiet_step (fail))
            refine wpQuiet_nil ?_
            rintro _ ⟨D, rfl⟩
            obtain ⟨Y, hY⟩ : ∃ Y, D.val = Y := ⟨_, rfl⟩
            have HBY : Hid (Below V.heap.size V Y) := by rw [← hY]; exact HRD.out D
            have HBOY : Hid (BoolsIn Y V.heap.size M f') := by rw [← hY]; exact HBO3.out D
            rw [hY]
            clear A0 A1 hne hY
            have HRD2 : Hid (∀ D : LW Y, Below V.heap.size V D.val) := fun D => HBY.out.trans (D.h.mono HBY.out.size)
            have B1 : ∀ D : LW Y, D.val.cell? ⟨cb, co + 1, none⟩ = some (.int .i64 p1) := fun D => (HPS.out D.val (HRD2.out D)).1
            have B2 : ∀ D : LW Y, D.val.cell? ⟨cb, co + i1, none⟩ = some (.int .i64 p2) := fun D => (HPS.out D.val (HRD2.out D)).2.1
            have B3 : ∀ D : LW Y, D.val.cell? ⟨gd, an, none⟩ = some (.int .i64 (Ku.dg es an : Int)) := fun D => (HPS.out D.val (HRD2.out D)).2.2.1
            have B4 : ∀ D : LW Y, D.val.cell? ⟨gd, bn, none⟩ = some (.int .i64 (Ku.dg es bn : Int)) := fun D => (HPS.out D.val (HRD2.out D)).2.2.2
            have HBO4 : Hid (∀ D : LW Y, BoolsIn D.val V.heap.size M f') := fun D => HBOY.out.later D.h
            have d1 : decide ((y : Int) ≤ z) = false := by simp; omega
            have d2 : decide ((bn : Int) < (an : Int)) = false := by simp; omega
            have d2' : decide (bn < an) = false := by simp; omega
            obtain ⟨da, hda⟩ : ∃ da, (Ku.dg es an : Int) = da := ⟨_, rfl⟩
            obtain ⟨db, hdb⟩ : ∃ db, (Ku.dg es bn : Int) = db := ⟨_, rfl⟩
            rw [hda] at B3
            rw [hdb] at B4
            have a0' : (0 : Int) ≤ (an : Int) := by omega
            have am' : (an : Int) < (m : Int) := by omega
            have b0' : (0 : Int) ≤ (bn : Int) := by omega
            have bm' : (bn : Int) < (m : Int) := by omega
            have HDA := Nu.hid hda
            have hne := LW.any Y
            clear HBY HBOY
            by_cases hab : an = bn
            · subst hab
              obtain ⟨q1, q2⟩ := E2 rfl
              have d3 : decide ((C : Int) < 4) = false := by simp; omega
              have d5 : decide (C < 4) = false := by simp; omega
              have d6 : decide (i + 1 < 4) = false := by simp; omega
              have d7 : decide ((i : Int) + 1 < 4) = false := by simp; omega
              have d8 : (i : Int) + 1 - 2 = (i1 : Int) := by omega
              have d9 : (i1 : Int) < (i : Int) + 1 := by omega
              have d10 : (1 : Int) < (i : Int) + 1 := by omega
              have d4 : decide (p2 ≤ p1) = false := by simp; omega
              have tab : ((an : Int) == (an : Int)) = true := by simp
              clear E1 E2 E3 hda hdb q1 q2 hzy
              go_wp2_with fail
              refine wp_region_lw (by kernel_rfl) (by kernel_rfl) ?_
              repeat (go_big_quiet_step (fail))
              refine wpQuiet_nil ?_
              rintro _ ⟨D, rfl⟩
              obtain ⟨Z, hZ⟩ : ∃ Z, D.val = Z := ⟨_, rfl⟩
              have HBY : Hid (Below V.heap.size V Z) := by rw [← hZ]; exact HRD2.out D
              have HBOY : Hid (BoolsIn Z V.heap.size M f') := by rw [← hZ]; exact HBO4.out D
              have hz3 : Z.cell? ⟨gd, an, none⟩ = some (.int .i64 da) := by rw [← hZ]; exact B3 D
              rw [hZ]
              clear B1 B2 B3 B4 hne hZ d1 d2 d2' d3 d4 d5 d6 d7 d8 d9 d10
              by_cases hd2 : da = 2
              · have td : (da == 2) = true := by simp [hd2]
                have HD2 : Hid (Ku.dg es an = 2) := by have h1 := HDA.out; rw [hd2] at h1; show Ku.dg es an = 2; omega
                clear hd2
                go_wp2_with fail
                go_loopw [18] (fun cv wr => ∃ (j : Nat), j ≤ C ∧ cv = .int .i64 (j : Int) ∧ Z = wr) (fun cv _ => C - (intOf cv).toNat)
                case atStart => exact ⟨0, Nat.zero_le _, rfl, rfl⟩
                case round =>
                  obtain ⟨j, hjC, rfl, rfl⟩ := hrel
                  have hwj : IntKind.i64.wrap ((j : Int) + 1) = (j : Int) + 1 := by rw [IntKind.wrap_i64]; omega
                  by_cases hjl : j < C
                  · have hjli : (j : Int) < (C : Int) := by omega
                    have hj0 : (0 : Int) ≤ (j : Int) := by omega
                    obtain ⟨v, hv1, hv2⟩ := HALL.out Z j HBY.out hjl
                    have hv3 : ¬ (v < (an : Int)) := by have := hv2 (by first | rfl | trivial) HD2.out; omega
                    clear hv2
                    go_wp2
                    go_roundw
                    case rel => exact ⟨j + 1, by omega, by go_num, by first | rfl | trivial⟩
                    case measure => simp [intOf]; omega
                  · have hdj : ¬ ((j : Int) < (C : Int)) := by omega
                    go_wp2
                    go_roundw
                    case rel => exact ⟨t + 1, f', (y : Int), k, by omega, by first | rfl | trivial, by first | rfl | trivial, by go_num, HKC3.out, HBOY.out, HBY.out, HIF2.out, HLS2.out⟩
                    case measure => simp [intOf]; omega
              · have td : (da == 2) = false := by simp [hd2]
                clear hd2
                go_wp2
                go_roundw
                case rel => exact ⟨t + 1, f', (y : Int), k, by omega, by first | rfl | trivial, by first | rfl | trivial, by go_num, HKC3.out, HBOY.out, HBY.out, HIF2.out, HLS2.out⟩
                case measure => simp [intOf]; omega
            · obtain ⟨q1, q2⟩ := E3 (by omega)
              have d3 : (da == 2) = false := by simp; omega
              have d4 : (db == 2) = false := by simp; omega
              have tab : ((an : Int) == (bn : Int)) = false := by simp; omega
              clear E1 E2 E3 hda hdb q1 q2 hzy hab
              go_wp2_with fail
              refine wp_region_lw (by kernel_rfl) (by kernel_rfl) ?_
              repeat (go_big_quiet_step (fail))
              refine wpQuiet_nil ?_
              rintro _ ⟨D, rfl⟩
              obtain ⟨Z, hZ⟩ : ∃ Z, D.val = Z := ⟨_, rfl⟩
              have HBY : Hid (Below V.heap.size V Z) := by rw [← hZ]; exact HRD2.out D
              have HBOY : Hid (BoolsIn Z V.heap.size M f') := by rw [← hZ]; exact HBO4.out D
              rw [hZ]
              clear B1 B2 B3 B4 hne hZ d1 d2 d2' d3 d4
              go_wp2
              go_roundw
              case rel => exact ⟨t + 1, f', (y : Int), k, by omega, by first | rfl | trivial, by first | rfl | trivial, by go_num, HKC3.out, HBOY.out, HBY.out, HIF2.out, HLS2.out⟩
              case measure => simp [intOf]; omega
      · have hd : ¬ ((t : Int) < (J : Int)) := by omega
        obtain rfl : t = J := by omega
        have HEND : Hid ((k : Int) = (M : Int)) := by
          have : k = M := by
            rw [hkc]
            refine Ku.cnt_full fun x hx => (hiff x).2 ?_
            rw [List.take_of_length_le (by rw [HJ2.out]; exact Nat.le_refl _)]
            exact Ku.all_seen (by rw [HM.out]; exact hx)
          rw [this]
          exact Nu.hid rfl
        obtain ⟨⟨x0, x1⟩, -, -, -, hlow⟩ := HREAD.out U hb
        have HLOW := Nu.hid hlow
        have hkk : ((k : Int) == (M : Int)) = true := by rw [HEND.out]; simp
        clear hiff hz hbo hb hkc hlow
        go_wp2
        go_ret
        exact ⟨rfl, HLOW.out⟩
  · have hk := HKC.out
    rw [kc_no hv] at hk
    cases hk
    have hJ0 := HJ.out
    simp only [List.length_nil] at hJ0
    subst hJ0
    have HB := Nu.hid GV.out.low
    clear hv hb4
    go_wp2
    go_ret
    exact ⟨rfl, HB.out⟩

set_option maxRecDepth 100000 in
/-- What the walk gives, for every argument and every world. -/
theorem contract (H : Type) (enc : TypeId × Value → H) (W : World) (base : Nat) (args : Array Value) (ds gs : List (DataW H)) (before : List MemPlace)
    (hval : ∀ (j : Nat) t v, Try.f5.params[j]? = some t → args[j]? = some v → Value.okWide Try.prog W .any base t v)
    (hW : DataW.Whole enc Try.prog Try.f5.params.toList Rows.kuraChainsPartSpec.vars false W args.toList ds gs before)
    (hsz : (DataW.weightsEach Try.prog (Try.f5.params.toList ++ (OpenSpec.ofChange Rows.kuraChainsPartSpec).bare.plain.varTypes Try.prog) (ds ++ gs)).all (· ≤ reachBytes) = true)
    :
    Calls Try.prog 5 args W fun e W' => ∃ v, e = .returned v ∧ Rows.kuraChainsPartSpec.post enc Try.prog Try.f5 false true false false W args v W' := by
  have hW' := hW
  obtain ⟨p, q, hA0, hV, rfl, hfz, hnd⟩ := hW
  have hA : DataW.TrodAll enc Try.prog W 0 (fun _ => true) true Try.f5.params.toList args.toList ds p := hA0
  rw [Try.params5] at hA hval hsz
  obtain ⟨v0, vs0, d0, ds0, p0, q0, hargs, rfl, rfl, h0, r0⟩ := trodAll_cons hA
  obtain ⟨rfl, rfl, rfl⟩ := trodAll_nil r0
  obtain rfl : args = #[v0] := by cases args; simp_all
  obtain ⟨rfl, rfl⟩ := trodVars_none hV
  have k0 := h0
  have lt0 : ∀ x ∈ p0, x.block < W.heap.size := by obtain ⟨m, hm⟩ := k0; exact DataW.trod_lt m _ _ _ hm
  obtain ⟨n0, a0, cap0, q0, rfl, x0, w0, u0⟩ := graph_of_trod (j := 0) (hval 0 24 v0 rfl rfl) h0 hsz rfl rfl
  clear hA0
  refine (walk n0 a0 cap0 q0 W x0 w0 u0).mono fun e W' ⟨he, bel⟩ => ?_
  subst he
  exact ⟨_, rfl, _, _, _, [], _, [], hW', trodAll_mk1 (shut_bool Try.underlying4 _), (trodAll_cons_mk (Below.trod laidOut (by kernel_rfl) (of_decide_eq_true (by kernel_rfl)) k0 bel lt0) trodAll_mk0), rfl, bel.frame _, fun h => by cases h⟩

theorem laid_met (os : Os) : laidMet Try.prog Rows.kuraChainsPartRow.laid ((settled os).forCall (fun _ _ => 0) ⟨#[], #[.agg #[.int .i64 0, .slice none 0 0]], []⟩).memory :=
  laidMet_of_run' 100 (by kernel_rfl) (by kernel_rfl)
theorem reads (os : Os) {H : Type} (enc : TypeId × Value → H) : ∃ places, DataW.whole enc Try.prog ((settled os).forCall (fun _ _ => 0) ⟨#[], #[.agg #[.int .i64 0, .slice none 0 0]], []⟩).memory Try.f5.params.toList Rows.kuraChainsPartSpec.vars false (#[.agg #[.int .i64 0, .slice none 0 0]] : Array Value).toList 8 = some ([.agg [.lit (.int .i64 0), .nil]], [], places) :=
  ⟨[], by kernel_rfl⟩

set_option maxRecDepth 100000 in
theorem lifted (os : Os) (started : os.Started) (H : Type) (enc : TypeId × Value → H) (F : Stop.Interp) :
    ReturnsInHanded {} Try.checked os 5 .any ((OpenSpec.ofChange Rows.kuraChainsPartSpec).preRow enc Try.prog Try.f5 Rows.kuraChainsPartRow.domain false Rows.kuraChainsPartRow.laid) (((OpenSpec.ofChange Rows.kuraChainsPartSpec).at F).post enc Try.prog Try.f5 false true false false) := by
  obtain ⟨places, hx⟩ := reads os enc
  refine returnsInHanded_of_row (C := Try.checked) (s := (OpenSpec.ofChange Rows.kuraChainsPartSpec)) own started (by kernel_rfl) Try.func5
    (witness_row_at (enc := enc) (C := Try.checked) false (settled os) #[.agg #[.int .i64 0, .slice none 0 0]] rfl (by kernel_rfl) (by kernel_rfl) (by kernel_rfl)
      (OpenSpec.preRow_of_cond 8 hx (by kernel_rfl) (fun k hk => by cases hk) (by kernel_rfl) (laid_met os))) ?_
  intro W base args ds gs before hval hW _ _ hsz _ _ _
  exact contract H enc W base args ds gs before hval hW hsz 

theorem said : Rows.KuraChainsPartSaid :=
  OpenClaim.holds_of_cond 5 Try.f5 rfl rfl rfl rfl rfl rfl rfl ⟨rfl, rfl, rfl, rfl, rfl⟩ rfl rfl rfl rfl rfl (by kernel_rfl) Try.func5 (by kernel_rfl)
    (of_decide_eq_true (by kernel_rfl)) (by unfold Func.isWrapper; first | (rw [if_pos (by decide +kernel)]; kernel_rfl) | (rw [if_neg (by decide +kernel)]; exact ⟨rfl, rfl⟩))
    (fun os started H enc _ F => by rw [OpenClaim.pre_eq_preRow]; exact lifted os started H enc F)

end lawKuP

theorem kuraChainsPart_holds : Rows.KuraChainsPartSaid := lawKuP.said

#print axioms kuraChainsPart_holds
end Go.Proofs.Ytdhaaodalchpkaa
