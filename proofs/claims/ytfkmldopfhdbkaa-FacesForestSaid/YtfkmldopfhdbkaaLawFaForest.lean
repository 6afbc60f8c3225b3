/-
  Proved: for every list of parents and every list r the law FacesForest answers true, and both read afterwards as before. No condition.
-/
import Derived.Test.YtfkmldopfhdbkaaFaFo
import Derived.Test.YtfkmldopfhdbkaaMg17
import Derived.Test.YtfkmldopfhdbkaaMg14
import Derived.Test.YtfkmldopfhdbkaaMg19
import Derived.Test.YtfkmldopfhdbkaaMg09
namespace Go.Proofs.Ytfkmldopfhdbkaa
open Go.ChangeShapes Go.WideShapes Go.ChangeAt Go.RowKit

theorem Try.infoTwo12 : (Try.prog.info? 52).map (fun i => (i.zero, i.size, i.bytes)) = some (some (.agg #[.int .i64 0, .int .i64 0]), 2, 16) := by kernel_rfl

theorem pairs_at {w : World} {B : Nat} {e : TypeId} {v : Value} {es : List (Int × Int)} (h : w.ownsRow B e 2 v es.length (flatE es)) : ∃ ao cap, v = .slice ao es.length cap ∧ EdgesAt w ao es := by
  have h' := h
  rcases h.2 with ⟨rfl, h0⟩ | ⟨g, cap, cur, rfl, hg, hh, hc, hm, _⟩
  · refine ⟨none, 0, by rw [h0], fun j p hj => ?_⟩
    rw [List.length_eq_zero_iff.1 h0] at hj
    simp at hj
  · refine ⟨_, cap, rfl, fun j p hj => ⟨g, 0, rfl, ?_⟩⟩
    have hcl := World.ownsRow.cells h' (g := g) rfl
    simp only [addrE] at hcl
    obtain ⟨h0, h1⟩ := flatE_at es j p hj
    rw [Nat.zero_add]
    exact ⟨hcl _ _ h0, hcl _ _ h1⟩

namespace Fa
theorem frs_one (l : List Int) : frs l 1 = [] := by
  unfold frs
  rw [if_neg (fun h => Int.not_lt.2 h.1 h.2)]
  rfl
theorem frs_yes {l : List Int} {k : Nat} {x : Int} (hx : l[k]? = some x) (h0 : 0 ≤ x) (h1 : x < (k : Int)) : frs l (k + 1) = frs l k ++ [(x, (k : Int))] := by
  have e : l.getD k 0 = x := by rw [List.getD_eq_getElem?_getD, hx]; rfl
  conv => lhs; unfold frs
  rw [e, if_pos ⟨h0, h1⟩]
theorem frs_no {l : List Int} {k : Nat} {x : Int} (hx : l[k]? = some x) (h : ¬ (0 ≤ x ∧ x < (k : Int))) : frs l (k + 1) = frs l k := by
  have e : l.getD k 0 = x := by rw [List.getD_eq_getElem?_getD, hx]; rfl
  conv => lhs; unfold frs
  rw [e, if_neg h]
theorem frs_mk {l : List Int} (hl : l.length ≤ 2000) : Si.mk (l.length : Int) (frs l l.length) = ((l.length : Int), frE l, 0) := by
  have h1 := (frE_val hl).few
  unfold Si.mk
  rw [if_neg, if_neg]
  · rfl
  · exact Nat.not_lt.2 h1
  · have : Si.inside (l.length : Int) (frs l l.length) = true := Si.inside_yes fun j p hj => by
      have := frs_mem l _ p (List.mem_of_getElem? hj)
      unfold Si.inn
      omega
    rw [this]
    simp
    omega
end Fa

namespace lawFF

set_option maxRecDepth 100000 in
set_option maxHeartbeats 32000000 in
theorem walk (po : Option Addr) (pn pc : Nat) (pz : List Int) (ro : Option Addr) (rn rc : Nat) (rz : List Int) (w : World) (hp : IsRow .i64 8 w po pn pc pz) (hr : IsRow .i64 8 w ro rn rc rz) :
    Calls Try.prog 7 #[.slice po pn pc, .slice ro rn rc] w fun e w' => e = .returned (.bool true) ∧ Below w.heap.size w w' := by
  obtain ⟨i2, hi2, hw0, hw1, hw2⟩ := info_parts Try.infoTwo12
  obtain ⟨i1, hi1, hy0, hy1, hy2⟩ := info_parts Try.infoRow
  have hfewp := hp.few
  have hfewr := hr.few
  have HLP := Nu.hid hp.lst
  have HLR := Nu.hid hr.lst
  clear hp hr
  obtain ⟨l, hl⟩ : ∃ l, pz.take pn = l := ⟨_, rfl⟩
  obtain ⟨rs, hrs⟩ : ∃ rs, rz.take rn = rs := ⟨_, rfl⟩
  rw [hl] at HLP
  rw [hrs] at HLR
  clear hl hrs
  obtain rfl := HLP.out.len
  obtain rfl := HLR.out.len
  by_cases hbig : 2000 < l.length
  · have hbi : (2000 : Int) < (l.length : Int) := by omega
    clear HLP HLR
    go_enter Try.func7, Try.ntmps7
    go_wp2_with (go_at_call 9; refine (wakes12_any _).mono ?_; rintro e W1 ⟨rfl, hb1⟩; refine Hid.out ?_)
    refine Nu.hid ?_
    go_wp2
    go_ret
    exact ⟨rfl, hb1⟩
  have hbi : ¬ (2000 : Int) < (l.length : Int) := by omega
  go_enter Try.func7, Try.ntmps7
  go_wp2_with (go_at_call 9; refine (wakes12_any _).mono ?_; rintro e W1 ⟨rfl, hb1⟩; refine Hid.out ?_)
  refine Nu.hid ?_
  have HB1 := Nu.hid hb1
  clear hb1
  go_wp2
  go_loopw [6, 7] (fun pv cv wr => ∃ (k : Nat), 1 ≤ k ∧ (k = 1 ∨ k ≤ l.length) ∧ cv = .int .i64 (k : Int) ∧ wr.ownsRow w.heap.size 52 2 pv (Fa.frs l k).length (flatE (Fa.frs l k)) ∧ Below w.heap.size w wr) (fun _ cv _ => l.length - (intOf cv).toNat)
  case atStart => exact ⟨1, Nat.le_refl _, .inl rfl, rfl, by rw [Fa.frs_one]; exact World.ownsRow_nil _ _ _ _, HB1.out⟩
  case round =>
    obtain ⟨k, hk1, hk2, rfl, hrow, hb⟩ := hrel
    obtain ⟨A, C, rfl, hea⟩ := pairs_at hrow
    have HROW := Nu.hid hrow
    have HEA := Nu.hid hea
    have HB := Nu.hid hb
    have hsz := hb.size
    clear hrow hea hb HB1
    by_cases hlt : k < l.length
    · have hlti : (k : Int) < (l.length : Int) := by omega
      have hk0 : (0 : Int) ≤ (k : Int) := by omega
      obtain ⟨x, hx⟩ : ∃ x, l[k]? = some x := ⟨_, List.getElem?_eq_getElem hlt⟩
      obtain ⟨b, o, rfl, c0⟩ := (HLP.out.ints.later (HB.out)) k x hx
      have HX := Nu.hid hx
      have hfl := Fa.frs_len l k
      clear hx
      by_cases h0 : 0 ≤ x
      · by_cases h1 : x < (k : Int)
        · have HY := Nu.hid (Fa.frs_yes HX.out h0 h1)
          obtain ⟨q, hq⟩ : ∃ q, q = Fa.frs l k := ⟨_, rfl⟩
          rw [← hq] at HROW HY HEA hfl ⊢
          clear hq
          go_wp2_with (at_builtin; refine wpList_append_own_at _ rfl _ _ 51 rfl w.heap.size 52 i2 (.agg #[.int .i64 0, .int .i64 0]) 2 16 Try.underlying51 hi2 hw0 hw1 hw2 rfl (by decide) _ _ _ rfl (World.ownsRow.alloc HROW.out _) ⟨wr.heap.size, 0, none⟩ 1 1 [.int .i64 x, .int .i64 (k : Int)] rfl rfl (World.news_of_block (heap_alloc_new wr _)) (by simp [Value.oneCell']) (by unfold maxLen; omega) (by omega) (by simp; omega) ?_; refine Hid.out ?_)
          refine Nu.hid ?_
          intro v1 w1 hown1 hgrow1 _ hat1
          go_wp2
          go_roundw
          case rel =>
            refine ⟨k + 1, by omega, .inr (by omega), by go_num, ?_, ?_⟩
            · rw [HY.out, List.length_append, flatE_snoc]
              exact hown1
            · refine ⟨hgrow1.os.trans HB.out.os, hgrow1.tape.trans HB.out.tape, hgrow1.output.trans HB.out.output, ?_, fun j hj => ?_⟩
              · have := hgrow1.size
                rw [World.size_alloc] at this
                omega
              · rw [hgrow1.block j (by rw [World.size_alloc]; omega) (fun e => by have := (World.ownsRow.lt HROW.out j e.symm).1; omega)]
                exact (Below.heap_alloc wr _ j (by omega)).trans (HB.out.block j hj)
          case measure => simp [intOf]; omega
        · have HY := Nu.hid (Fa.frs_no HX.out (fun h => h1 h.2))
          go_wp2
          go_roundw
          case rel => exact ⟨k + 1, by omega, .inr (by omega), by go_num, by rw [HY.out]; exact HROW.out, HB.out⟩
          case measure => simp [intOf]; omega
      · have HY := Nu.hid (Fa.frs_no HX.out (fun h => h0 h.1))
        go_wp2
        go_roundw
        case rel => exact ⟨k + 1, by omega, .inr (by omega), by go_num, by rw [HY.out]; exact HROW.out, HB.out⟩
        case measure => simp [intOf]; omega
    · have hlti : ¬ (k : Int) < (l.length : Int) := by omega
      have hend : Fa.frs l k = Fa.frs l l.length := by
        rcases hk2 with rfl | h
        · rcases (show l.length = 0 ∨ l.length = 1 by omega) with e | e
          · rw [e, Fa.frs_one]; rfl
          · rw [e]
        · rw [show k = l.length by omega]
      rw [hend] at HROW HEA ⊢
      have hmk := rmake_any (l.length : Int) A C (Fa.frs l l.length) wr HEA.out (by have := Fa.frs_len l l.length; omega)
      unfold RMakePost at hmk
      rw [Fa.frs_mk (by omega)] at hmk
      dsimp only at hmk
      have HMK := Nu.hid hmk
      clear hmk
      go_wp2_with (go_at_call 28; refine HMK.out.mono ?_; rintro e U0 ⟨ao, ca, rfl, he, hb2⟩; refine Hid.out ?_)
      refine Nu.hid ?_
      have HBU := Nu.hid (HB.out.trans (hb2.mono hsz))
      have hval := Fa.frE_val (l := l) (by omega)
      obtain ⟨N, hN⟩ : ∃ N, N = l.length := ⟨_, rfl⟩
      obtain ⟨es, hes⟩ : ∃ es, es = Fa.frE l := ⟨_, rfl⟩
      rw [← hes, ← hN] at hval
      rw [← hes] at he
      have HN := Nu.hid hN
      have HES := Nu.hid hes
      have HE := Nu.hid he
      have HVAL := Nu.hid hval
      have hN2 : N ≤ 2000 := by omega
      have hfew := hval.few
      rw [← hes, ← hN]
      clear hb2 hsz HB HROW HEA HMK hend hlti hlt hk1 hk2 hN hes he hval hbi hbig
      go_wp2_with (at_make; refine wpList_make_full _ rfl _ _ 26 rfl (U0.heap.size + 1) 36 i1 (.slice none 0 0) 1 Try.underlying26 hi1 hy0 hy1 _ _ _ _ N rfl rfl rfl rfl (by rw [hy2]; omega) (by unfold maxLen; omega) (by simp) ?_; refine Hid.out ?_)
      refine Nu.hid ?_
      intro w2 hrow hg2
      have hfo : Fo U0 N ao ca es (List.replicate N (.slice none 0 0)) (Fa.outs es N 0) w2 := by
        have hsz : (U0.alloc (.cells #[.int .i64 (N : Int), .slice ao es.length ca] 24)).heap.size = U0.heap.size + 1 := by simp
        have hbb : Below (U0.heap.size + 1) (U0.alloc (.cells #[.int .i64 (N : Int), .slice ao es.length ca] 24)) w2 := (Below.refl _ _).grown hg2 (by rw [hsz]; exact Nat.le_refl _) (fun j hj => by cases hj)
        refine ⟨(hbb.block _ (by omega)).trans (heap_alloc_new U0 _), Fa.outs_len _ _ _, ?_, ((Below.refl _ _).alloc (Nat.le_refl _) _).trans (hbb.mono (by omega))⟩
        rw [Fa.outs_zero]
        have := RowsZ.made hrow
        simpa using this
      have HFO := Nu.hid hfo
      clear hrow hg2 hfo
      go_wp2
      go_loopw [11] (fun cv wr => ∃ (k : Nat) (vs : List Value), k ≤ es.length ∧ cv = .int .i64 (k : Int) ∧ Fo U0 N ao ca es vs (Fa.outs es N (2 * k)) wr) (fun cv _ => es.length - (intOf cv).toNat)
      case atStart => exact ⟨0, _, Nat.zero_le _, rfl, HFO.out⟩
      case round =>
        obtain ⟨k, vs, hk, rfl, hfo⟩ := hrel
        have H := Nu.hid hfo
        have y1 := (pair_cells hfo.box).2.1
        clear hfo HFO
        by_cases hlt : k < es.length
        · have hlti : (k : Int) < (es.length : Int) := by omega
          have hk0 : (0 : Int) ≤ (k : Int) := by omega
          obtain ⟨e, hee⟩ : ∃ e, es[k]? = some e := ⟨_, List.getElem?_eq_getElem hlt⟩
          obtain ⟨b, o, rfl, -⟩ := HE.out k e hee
          have hok := HVAL.out.each k e hee
          unfold Si.ok at hok
          obtain ⟨eu, ev⟩ := e
          dsimp only at hok
          obtain ⟨u, rfl⟩ : ∃ u : Nat, eu = (u : Int) := ⟨eu.toNat, by omega⟩
          obtain ⟨v, rfl⟩ : ∃ v : Nat, ev = (v : Int) := ⟨ev.toNat, by omega⟩
          obtain ⟨f1, -⟩ := Cs.fr_even hee
          obtain ⟨f2, -⟩ := Cs.fr_odd hee
          dsimp only [Int.toNat_natCast] at f1 f2
          have F1 := Nu.hid f1
          have F2 := Nu.hid f2
          have HEE := Nu.hid hee
          have u0 : (0 : Int) ≤ (u : Int) := by omega
          have v0 : (0 : Int) ≤ (v : Int) := by omega
          have un : (u : Int) < (N : Int) := by omega
          have vn : (v : Int) < (N : Int) := by omega
          have hwr : IntKind.i64.wrap (2 * (k : Int)) = 2 * (k : Int) := by rw [IntKind.wrap_i64]; omega
          have hwr1 : IntKind.i64.wrap (2 * (k : Int) + 1) = 2 * (k : Int) + 1 := by rw [IntKind.wrap_i64]; omega
          clear hee hok f1 f2
          obtain ⟨W1, hW1⟩ : ∃ W1, W1 = wr.drew := ⟨_, rfl⟩
          have hF : Fo U0 N (some ⟨b, o, none⟩) ca es vs (Fa.outs es N (2 * k)) W1 := by rw [hW1]; exact H.out.later ((Below.refl _ _).drew)
          obtain ⟨m1, hm1⟩ : ∃ m1, m1 = Fa.outm es u (2 * k) := ⟨_, rfl⟩
          have hm1l : m1.length ≤ 8388608 := by
            have := Cs.out_len_le (es := es) (v := u) (2 * k)
            rw [hm1]; unfold Fa.outm; rw [List.length_map]; omega
          have ho1 : (Fa.outs es N (2 * k))[u]? = some m1 := by rw [hm1]; exact Fa.outs_at (by omega)
          obtain ⟨A1, C1, hx1, hc1, -⟩ := hF.row ho1
          obtain ⟨W2, hW2⟩ : ∃ W2, W2 = W1.alloc (.cells #[.int .i64 (2 * (k : Int))] 3) := ⟨_, rfl⟩
          obtain ⟨A2, C2, W3, hrun, q1, q2, q3, q4, hF2⟩ := hF.push ho1 hm1l hx1 (2 * (k : Int)) W2 hW2
          have HVW3 : Hid (∀ V, (V = W1 ∨ V = W2 ∨ V = W3) → (V.cell? ⟨U0.heap.size, 1, none⟩ = some (.slice (some ⟨b, o, none⟩) es.length ca) ∧ V.cell? ⟨b, o + k * 2, none⟩ = some (.int .i64 (u : Int)) ∧ V.cell? ⟨U0.heap.size + 1, u, none⟩ = some (.slice A1 m1.length C1))) := by
            intro V hV
            rcases hV with rfl | rfl | rfl
            · have := fo_look HE.out hF.box hF.low HEE.out
              exact ⟨this.1, this.2.1, hc1⟩
            · have hF' := hF.later (W' := V) (by rw [hW2]; exact (Below.refl _ _).alloc (Nat.le_refl _) _)
              have := fo_look HE.out hF'.box hF'.low HEE.out
              refine ⟨this.1, this.2.1, ?_⟩
              rw [hW2]
              exact (((Below.refl _ _).alloc (Nat.le_refl _) _).cell (p := ⟨U0.heap.size + 1, u, none⟩) (block_lt_of_cell hc1)).trans hc1
            · have := fo_look HE.out q3 q4 HEE.out
              exact ⟨this.1, this.2.1, q1⟩
          have HFW3 := Nu.hid q2
          have HRUNW3 := Nu.hid hrun
          have HWW2 := Nu.hid hW2
          have hls : (Fa.outs es N (2 * k)).set u (m1 ++ [2 * (k : Int)]) = Fa.outs es N (2 * k + 1) := by
            have := Fa.outs_set (N := N) F1.out
            rw [hm1, ← this]
            congr 3
          rw [hls] at hF2
          have HF2 := Nu.hid hF2
          clear hF hm1 ho1 hx1 hc1 hW2 hrun q1 q2 q3 q4 hF2 hls
          go_wp2_with fail
          refine wp_region_any (by kernel_rfl) ?_
          have hW1' : W1 = { heap := wr.heap, tape := wr.tape, drawn := wr.drawn + 1, os := wr.os, output := wr.output } := hW1
          rw [← hW1']
          clear hW1 hW1'
          refine AnyOrd.anyP (fun j => match j with | 0 => .slice (some ⟨U0.heap.size + 1, 0, none⟩) N N | 1 => .pointer (some ⟨U0.heap.size, 1, none⟩) | 2 => .slice (some ⟨b, o, none⟩) es.length ca | 3 => .int .i64 (k : Int) | 4 => .pointer (some ⟨b, o + k * 2, none⟩) | 5 => .pointer (some ⟨b, o + k * 2, none⟩) | 6 => .int .i64 (u : Int) | 7 => .slice (some ⟨U0.heap.size + 1, 0, none⟩) N N | 8 => .pointer (some ⟨U0.heap.size, 1, none⟩) | 9 => .slice (some ⟨b, o, none⟩) es.length ca | 10 => .int .i64 (k : Int) | 11 => .pointer (some ⟨b, o + k * 2, none⟩) | 12 => .pointer (some ⟨b, o + k * 2, none⟩) | 13 => .int .i64 (u : Int) | 14 => .pointer (some ⟨U0.heap.size + 1, u, none⟩) | 15 => .slice A1 m1.length C1 | 16 => .int .i64 (k : Int) | 17 => .int .i64 (2 * (k : Int)) | 18 => .slice (some ⟨W1.heap.size, 0, none⟩) 1 1 | 19 => .slice A2 (m1.length + 1) C2 | 20 => .pointer (some ⟨U0.heap.size + 1, u, none⟩) | _ => undef) (AnyM.memC W1 [(21, (W3.setCell ⟨U0.heap.size + 1, u, none⟩ (.slice A2 (m1.length + 1) C2))), (19, W3), (18, W2)]) 198 rfl (by kernel_rfl) rfl ?_ ?_
          · intro j o' Ls V ev ho hLi hC haft hdc he1 he2 hec hef
            have hc : j = 0 ∨ j = 1 ∨ j = 2 ∨ j = 3 ∨ j = 4 ∨ j = 5 ∨ j = 6 ∨ j = 7 ∨ j = 8 ∨ j = 9 ∨ j = 10 ∨ j = 11 ∨ j = 12 ∨ j = 13 ∨ j = 14 ∨ j = 15 ∨ j = 16 ∨ j = 17 ∨ j = 18 ∨ j = 19 ∨ j = 20 ∨ j = 21 := by
              have : j < 22 := (Array.getElem?_eq_some_iff.1 ho).1
              omega
            have hst : Ls 21 = false := by
              cases h : Ls 21 with
              | false => rfl
              | true =>
                exfalso
                have hq : Ls j = true := by
                  rcases hc with rfl | rfl | rfl | rfl | rfl | rfl | rfl | rfl | rfl | rfl | rfl | rfl | rfl | rfl | rfl | rfl | rfl | rfl | rfl | rfl | rfl | rfl
                  · exact hdc 21 _ rfl h ⟨0, .phase⟩ (by simp) rfl
                  · exact hdc 21 _ rfl h ⟨1, .phase⟩ (by simp) rfl
                  · exact hdc 21 _ rfl h ⟨2, .phase⟩ (by simp) rfl
                  · exact hdc 21 _ rfl h ⟨3, .phase⟩ (by simp) rfl
                  · exact hdc 21 _ rfl h ⟨4, .phase⟩ (by simp) rfl
                  · exact hdc 21 _ rfl h ⟨5, .phase⟩ (by simp) rfl
                  · exact hdc 21 _ rfl h ⟨6, .phase⟩ (by simp) rfl
                  · exact hdc 21 _ rfl h ⟨7, .phase⟩ (by simp) rfl
                  · exact hdc 21 _ rfl h ⟨8, .phase⟩ (by simp) rfl
                  · exact hdc 21 _ rfl h ⟨9, .phase⟩ (by simp) rfl
                  · exact hdc 21 _ rfl h ⟨10, .phase⟩ (by simp) rfl
                  · exact hdc 21 _ rfl h ⟨11, .phase⟩ (by simp) rfl
                  · exact hdc 21 _ rfl h ⟨12, .phase⟩ (by simp) rfl
                  · exact hdc 21 _ rfl h ⟨13, .phase⟩ (by simp) rfl
                  · exact hdc 21 _ rfl h ⟨14, .phase⟩ (by simp) rfl
                  · exact hdc 21 _ rfl h ⟨15, .phase⟩ (by simp) rfl
                  · exact hdc 21 _ rfl h ⟨16, .phase⟩ (by simp) rfl
                  · exact hdc 21 _ rfl h ⟨17, .phase⟩ (by simp) rfl
                  · exact hdc 21 _ rfl h ⟨18, .phase⟩ (by simp) rfl
                  · exact hdc 21 _ rfl h ⟨19, .data⟩ (by simp) rfl
                  · exact hdc 21 _ rfl h ⟨20, .data⟩ (by simp) rfl
                  · exact h
                rw [hLi] at hq
                cases hq
            have hcV : V = W1 ∨ V = W2 ∨ V = W3 := by
              cases h18 : Ls 18 <;> cases h19 : Ls 19 <;> simp [AnyM.memC, hst, h18, h19] at hC <;> simp [hC]
            obtain ⟨k1, k2, k3⟩ := HVW3.out V hcV
            rcases hc with rfl | rfl | rfl | rfl | rfl | rfl | rfl | rfl | rfl | rfl | rfl | rfl | rfl | rfl | rfl | rfl | rfl | rfl | rfl | rfl | rfl | rfl <;> obtain rfl := Option.some.inj ho
            · have e1 : ev (.tmp 10) = .slice (some ⟨U0.heap.size + 1, 0, none⟩) N N := he2 10 (by kernel_rfl)
              exact AnyOrd.gives_value (v := .slice (some ⟨U0.heap.size + 1, 0, none⟩) N N) (w' := V) (by simp [execOp, go_sem, e1]) ⟨rfl, AnyM.other rfl hC⟩
            · have e1 : ev (.tmp 8) = .pointer (some ⟨U0.heap.size, 0, none⟩) := he2 8 (by kernel_rfl)
              exact AnyOrd.gives_value (v := .pointer (some ⟨U0.heap.size, 1, none⟩)) (w' := V) (by simp [execOp, go_sem, e1]) ⟨rfl, AnyM.other rfl hC⟩
            · have e1 : ev (.tmp 75) = .pointer (some ⟨U0.heap.size, 1, none⟩) := he1 1 75 (by omega) rfl (by decide)
              exact AnyOrd.gives_value (v := .slice (some ⟨b, o, none⟩) es.length ca) (w' := V) (by simp [execOp, go_sem, e1, k1]) ⟨rfl, AnyM.other rfl hC⟩
            · have e1 : ev (.tmp 11) = .int .i64 (k : Int) := he2 11 (by kernel_rfl)
              exact AnyOrd.gives_value (v := .int .i64 (k : Int)) (w' := V) (by simp [execOp, go_sem, e1]) ⟨rfl, AnyM.other rfl hC⟩
            · have e1 : ev (.tmp 76) = .slice (some ⟨b, o, none⟩) es.length ca := he1 2 76 (by omega) rfl (by decide)
              have e2 : ev (.tmp 77) = .int .i64 (k : Int) := he1 3 77 (by omega) rfl (by decide)
              exact AnyOrd.gives_value (v := .pointer (some ⟨b, o + k * 2, none⟩)) (w' := V) (by simp [execOp, go_sem, e1, e2, hk0, hlti]) ⟨rfl, AnyM.other rfl hC⟩
            · have e1 : ev (.tmp 78) = .pointer (some ⟨b, o + k * 2, none⟩) := he1 4 78 (by omega) rfl (by decide)
              exact AnyOrd.gives_value (v := .pointer (some ⟨b, o + k * 2, none⟩)) (w' := V) (by simp [execOp, go_sem, e1]) ⟨rfl, AnyM.other rfl hC⟩
            · have e1 : ev (.tmp 79) = .pointer (some ⟨b, o + k * 2, none⟩) := he1 5 79 (by omega) rfl (by decide)
              exact AnyOrd.gives_value (v := .int .i64 (u : Int)) (w' := V) (by simp [execOp, go_sem, e1, k2]) ⟨rfl, AnyM.other rfl hC⟩
            · have e1 : ev (.tmp 10) = .slice (some ⟨U0.heap.size + 1, 0, none⟩) N N := he2 10 (by kernel_rfl)
              exact AnyOrd.gives_value (v := .slice (some ⟨U0.heap.size + 1, 0, none⟩) N N) (w' := V) (by simp [execOp, go_sem, e1]) ⟨rfl, AnyM.other rfl hC⟩
            · have e1 : ev (.tmp 8) = .pointer (some ⟨U0.heap.size, 0, none⟩) := he2 8 (by kernel_rfl)
              exact AnyOrd.gives_value (v := .pointer (some ⟨U0.heap.size, 1, none⟩)) (w' := V) (by simp [execOp, go_sem, e1]) ⟨rfl, AnyM.other rfl hC⟩
            · have e1 : ev (.tmp 82) = .pointer (some ⟨U0.heap.size, 1, none⟩) := he1 8 82 (by omega) rfl (by decide)
              exact AnyOrd.gives_value (v := .slice (some ⟨b, o, none⟩) es.length ca) (w' := V) (by simp [execOp, go_sem, e1, k1]) ⟨rfl, AnyM.other rfl hC⟩
            · have e1 : ev (.tmp 11) = .int .i64 (k : Int) := he2 11 (by kernel_rfl)
              exact AnyOrd.gives_value (v := .int .i64 (k : Int)) (w' := V) (by simp [execOp, go_sem, e1]) ⟨rfl, AnyM.other rfl hC⟩
            · have e1 : ev (.tmp 83) = .slice (some ⟨b, o, none⟩) es.length ca := he1 9 83 (by omega) rfl (by decide)
              have e2 : ev (.tmp 84) = .int .i64 (k : Int) := he1 10 84 (by omega) rfl (by decide)
              exact AnyOrd.gives_value (v := .pointer (some ⟨b, o + k * 2, none⟩)) (w' := V) (by simp [execOp, go_sem, e1, e2, hk0, hlti]) ⟨rfl, AnyM.other rfl hC⟩
            · have e1 : ev (.tmp 85) = .pointer (some ⟨b, o + k * 2, none⟩) := he1 11 85 (by omega) rfl (by decide)
              exact AnyOrd.gives_value (v := .pointer (some ⟨b, o + k * 2, none⟩)) (w' := V) (by simp [execOp, go_sem, e1]) ⟨rfl, AnyM.other rfl hC⟩
            · have e1 : ev (.tmp 86) = .pointer (some ⟨b, o + k * 2, none⟩) := he1 12 86 (by omega) rfl (by decide)
              exact AnyOrd.gives_value (v := .int .i64 (u : Int)) (w' := V) (by simp [execOp, go_sem, e1, k2]) ⟨rfl, AnyM.other rfl hC⟩
            · have e1 : ev (.tmp 81) = .slice (some ⟨U0.heap.size + 1, 0, none⟩) N N := he1 7 81 (by omega) rfl (by decide)
              have e2 : ev (.tmp 87) = .int .i64 (u : Int) := he1 13 87 (by omega) rfl (by decide)
              exact AnyOrd.gives_value (v := .pointer (some ⟨U0.heap.size + 1, u, none⟩)) (w' := V) (by simp [execOp, go_sem, e1, e2, u0, un]) ⟨rfl, AnyM.other rfl hC⟩
            · have e1 : ev (.tmp 88) = .pointer (some ⟨U0.heap.size + 1, u, none⟩) := he1 14 88 (by omega) rfl (by decide)
              exact AnyOrd.gives_value (v := .slice A1 m1.length C1) (w' := V) (by simp [execOp, go_sem, e1, k3]) ⟨rfl, AnyM.other rfl hC⟩
            · have e1 : ev (.tmp 11) = .int .i64 (k : Int) := he2 11 (by kernel_rfl)
              exact AnyOrd.gives_value (v := .int .i64 (k : Int)) (w' := V) (by simp [execOp, go_sem, e1]) ⟨rfl, AnyM.other rfl hC⟩
            · have e1 : ev (.tmp 90) = .int .i64 (k : Int) := he1 16 90 (by omega) rfl (by decide)
              exact AnyOrd.gives_value (v := .int .i64 (2 * (k : Int))) (w' := V) (by simp [execOp, go_sem, e1, hwr, hec]) ⟨rfl, AnyM.other rfl hC⟩
            · have e1 : ev (.tmp 91) = .int .i64 (2 * (k : Int)) := he1 17 91 (by omega) rfl (by decide)
              have hn19 : Ls 19 = false := by
                cases h : Ls 19 with
                | false => rfl
                | true =>
                  have hq18 : Ls 18 = true := hdc 19 _ rfl h ⟨18, .data⟩ (by simp) rfl
                  rw [hLi] at hq18
                  cases hq18
              have hVe : V = W1 := by
                simp only [AnyM.memC] at hC
                simp only [hn19, hLi, hst, Bool.false_eq_true, if_false] at hC
                exact hC
              rw [hVe]
              refine AnyOrd.gives_value (v := .slice (some ⟨W1.heap.size, 0, none⟩) 1 1) (w' := W2) (by simp [execOp, go_sem, e1, HWW2.out]) ⟨rfl, ?_⟩
              simp [AnyM.memC, AnyOrd.updB, hn19, hst]
            · have e1 : ev (.tmp 89) = .slice A1 m1.length C1 := he1 15 89 (by omega) rfl (by decide)
              have e2 : ev (.tmp 92) = .slice (some ⟨W1.heap.size, 0, none⟩) 1 1 := he1 18 92 (by omega) rfl (by decide)
              have hp : Ls 18 = true := haft ⟨18, .data⟩ (by simp) rfl
              have hVe : V = W2 := by
                simp only [AnyM.memC] at hC
                simp only [hLi, hp, hst, Bool.false_eq_true, if_false, if_true] at hC
                exact hC
              rw [hVe]
              refine AnyOrd.gives_value (v := .slice A2 (m1.length + 1) C2) (w' := W3) (HRUNW3.out _ ev _ _ rfl rfl e1 e2) ⟨rfl, ?_⟩
              simp [AnyM.memC, AnyOrd.updB, hst]
            · have e1 : ev (.tmp 74) = .slice (some ⟨U0.heap.size + 1, 0, none⟩) N N := he1 0 74 (by omega) rfl (by decide)
              have e2 : ev (.tmp 80) = .int .i64 (u : Int) := he1 6 80 (by omega) rfl (by decide)
              exact AnyOrd.gives_value (v := .pointer (some ⟨U0.heap.size + 1, u, none⟩)) (w' := V) (by simp [execOp, go_sem, e1, e2, u0, un]) ⟨rfl, AnyM.other rfl hC⟩
            · have e1 : ev (.tmp 94) = .pointer (some ⟨U0.heap.size + 1, u, none⟩) := he1 20 94 (by omega) rfl (by decide)
              have e2 : ev (.tmp 93) = .slice A2 (m1.length + 1) C2 := he1 19 93 (by omega) rfl (by decide)
              have hp : Ls 19 = true := haft ⟨19, .data⟩ (by simp) rfl
              have hVe : V = W3 := by
                simp only [AnyM.memC] at hC
                simp only [hLi, hp, Bool.false_eq_true, if_false, if_true] at hC
                exact hC
              rw [hVe]
              rw [hVe] at k3
              refine AnyOrd.gives_skip (w' := (W3.setCell ⟨U0.heap.size + 1, u, none⟩ (.slice A2 (m1.length + 1) C2))) (by simp [execOp, go_sem, e1, e2, k3, HFW3.out]) ⟨rfl, ?_⟩
              simp [AnyM.memC, AnyOrd.updB]
          · intro Ls V hall hC
            unfold AnyM.memC at hC
            rw [if_pos (hall 21 (by decide))] at hC
            subst hC
            simp only [AnyOrd.canon, AnyOrd.dst, Array.size, List.length_cons, List.length_nil]
            simp [Act.put]
            clear hall
            obtain ⟨W4, hW4⟩ : ∃ W4, W4 = W3.setCell ⟨U0.heap.size + 1, u, none⟩ (.slice A2 (m1.length + 1) C2) := ⟨_, rfl⟩
            rw [← hW4] at HF2 ⊢
            clear hW4 HVW3 HFW3 HRUNW3 HWW2 H y1
            obtain ⟨vs1, hvs1⟩ : ∃ vs1, vs1 = vs.set u (.slice A2 (m1.length + 1) C2) := ⟨_, rfl⟩
            rw [← hvs1] at HF2
            clear hvs1
            obtain ⟨X1, hX1⟩ : ∃ X1, X1 = W4.drew := ⟨_, rfl⟩
            have hF : Fo U0 N (some ⟨b, o, none⟩) ca es vs1 (Fa.outs es N (2 * k + 1)) X1 := by rw [hX1]; exact HF2.out.later ((Below.refl _ _).drew)
            obtain ⟨m2, hm2⟩ : ∃ m2, m2 = Fa.outm es v (2 * k + 1) := ⟨_, rfl⟩
            have hm2l : m2.length ≤ 8388608 := by
              have := Cs.out_len_le (es := es) (v := v) (2 * k + 1)
              rw [hm2]; unfold Fa.outm; rw [List.length_map]; omega
            have ho2 : (Fa.outs es N (2 * k + 1))[v]? = some m2 := by rw [hm2]; exact Fa.outs_at (by omega)
            obtain ⟨A3, C3, hx2, hc2, -⟩ := hF.row ho2
            obtain ⟨X2, hX2⟩ : ∃ X2, X2 = X1.alloc (.cells #[.int .i64 (2 * (k : Int) + 1)] 3) := ⟨_, rfl⟩
            obtain ⟨A4, C4, X3, hrun, q1, q2, q3, q4, hF4⟩ := hF.push ho2 hm2l hx2 (2 * (k : Int) + 1) X2 hX2
            have HVX3 : Hid (∀ V, (V = X1 ∨ V = X2 ∨ V = X3) → (V.cell? ⟨U0.heap.size, 1, none⟩ = some (.slice (some ⟨b, o, none⟩) es.length ca) ∧ V.cell? ⟨b, o + k * 2 + 1, none⟩ = some (.int .i64 (v : Int)) ∧ V.cell? ⟨U0.heap.size + 1, v, none⟩ = some (.slice A3 m2.length C3))) := by
              intro V hV
              rcases hV with rfl | rfl | rfl
              · have := fo_look HE.out hF.box hF.low HEE.out
                exact ⟨this.1, this.2.2, hc2⟩
              · have hF' := hF.later (W' := V) (by rw [hX2]; exact (Below.refl _ _).alloc (Nat.le_refl _) _)
                have := fo_look HE.out hF'.box hF'.low HEE.out
                refine ⟨this.1, this.2.2, ?_⟩
                rw [hX2]
                exact (((Below.refl _ _).alloc (Nat.le_refl _) _).cell (p := ⟨U0.heap.size + 1, v, none⟩) (block_lt_of_cell hc2)).trans hc2
              · have := fo_look HE.out q3 q4 HEE.out
                exact ⟨this.1, this.2.2, q1⟩
            have HFX3 := Nu.hid q2
            have HRUNX3 := Nu.hid hrun
            have HWX2 := Nu.hid hX2
            have hls : (Fa.outs es N (2 * k + 1)).set v (m2 ++ [2 * (k : Int) + 1]) = Fa.outs es N (2 * (k + 1)) := by
              have := Fa.outs_set (N := N) F2.out
              rw [hm2, show 2 * (k + 1) = 2 * k + 1 + 1 by omega, ← this]
              congr 3
            rw [hls] at hF4
            have HF4 := Nu.hid hF4
            clear hF hm2 ho2 hx2 hc2 hX2 hrun q1 q2 q3 q4 hF4 hls HF2
            go_wp2_with fail
            refine wp_region_any (by kernel_rfl) ?_
            have hX1' : X1 = { heap := W4.heap, tape := W4.tape, drawn := W4.drawn + 1, os := W4.os, output := W4.output } := hX1
            rw [← hX1']
            clear hX1 hX1'
            refine AnyOrd.anyP (fun j => match j with | 0 => .slice (some ⟨U0.heap.size + 1, 0, none⟩) N N | 1 => .pointer (some ⟨U0.heap.size, 1, none⟩) | 2 => .slice (some ⟨b, o, none⟩) es.length ca | 3 => .int .i64 (k : Int) | 4 => .pointer (some ⟨b, o + k * 2, none⟩) | 5 => .pointer (some ⟨b, o + k * 2 + 1, none⟩) | 6 => .int .i64 (v : Int) | 7 => .slice (some ⟨U0.heap.size + 1, 0, none⟩) N N | 8 => .pointer (some ⟨U0.heap.size, 1, none⟩) | 9 => .slice (some ⟨b, o, none⟩) es.length ca | 10 => .int .i64 (k : Int) | 11 => .pointer (some ⟨b, o + k * 2, none⟩) | 12 => .pointer (some ⟨b, o + k * 2 + 1, none⟩) | 13 => .int .i64 (v : Int) | 14 => .pointer (some ⟨U0.heap.size + 1, v, none⟩) | 15 => .slice A3 m2.length C3 | 16 => .int .i64 (k : Int) | 17 => .int .i64 (2 * (k : Int)) | 18 => .int .i64 (2 * (k : Int) + 1) | 19 => .slice (some ⟨X1.heap.size, 0, none⟩) 1 1 | 20 => .slice A4 (m2.length + 1) C4 | 21 => .pointer (some ⟨U0.heap.size + 1, v, none⟩) | _ => undef) (AnyM.memC X1 [(22, (X3.setCell ⟨U0.heap.size + 1, v, none⟩ (.slice A4 (m2.length + 1) C4))), (20, X3), (19, X2)]) 198 rfl (by kernel_rfl) rfl ?_ ?_
            · intro j o' Ls V ev ho hLi hC haft hdc he1 he2 hec hef
              have hc : j = 0 ∨ j = 1 ∨ j = 2 ∨ j = 3 ∨ j = 4 ∨ j = 5 ∨ j = 6 ∨ j = 7 ∨ j = 8 ∨ j = 9 ∨ j = 10 ∨ j = 11 ∨ j = 12 ∨ j = 13 ∨ j = 14 ∨ j = 15 ∨ j = 16 ∨ j = 17 ∨ j = 18 ∨ j = 19 ∨ j = 20 ∨ j = 21 ∨ j = 22 := by
                have : j < 23 := (Array.getElem?_eq_some_iff.1 ho).1
                omega
              have hst : Ls 22 = false := by
                cases h : Ls 22 with
                | false => rfl
                | true =>
                  exfalso
                  have hq : Ls j = true := by
                    rcases hc with rfl | rfl | rfl | rfl | rfl | rfl | rfl | rfl | rfl | rfl | rfl | rfl | rfl | rfl | rfl | rfl | rfl | rfl | rfl | rfl | rfl | rfl | rfl
                    · exact hdc 22 _ rfl h ⟨0, .phase⟩ (by simp) rfl
                    · exact hdc 22 _ rfl h ⟨1, .phase⟩ (by simp) rfl
                    · exact hdc 22 _ rfl h ⟨2, .phase⟩ (by simp) rfl
                    · exact hdc 22 _ rfl h ⟨3, .phase⟩ (by simp) rfl
                    · exact hdc 22 _ rfl h ⟨4, .phase⟩ (by simp) rfl
                    · exact hdc 22 _ rfl h ⟨5, .phase⟩ (by simp) rfl
                    · exact hdc 22 _ rfl h ⟨6, .phase⟩ (by simp) rfl
                    · exact hdc 22 _ rfl h ⟨7, .phase⟩ (by simp) rfl
                    · exact hdc 22 _ rfl h ⟨8, .phase⟩ (by simp) rfl
                    · exact hdc 22 _ rfl h ⟨9, .phase⟩ (by simp) rfl
                    · exact hdc 22 _ rfl h ⟨10, .phase⟩ (by simp) rfl
                    · exact hdc 22 _ rfl h ⟨11, .phase⟩ (by simp) rfl
                    · exact hdc 22 _ rfl h ⟨12, .phase⟩ (by simp) rfl
                    · exact hdc 22 _ rfl h ⟨13, .phase⟩ (by simp) rfl
                    · exact hdc 22 _ rfl h ⟨14, .phase⟩ (by simp) rfl
                    · exact hdc 22 _ rfl h ⟨15, .phase⟩ (by simp) rfl
                    · exact hdc 22 _ rfl h ⟨16, .phase⟩ (by simp) rfl
                    · exact hdc 22 _ rfl h ⟨17, .phase⟩ (by simp) rfl
                    · exact hdc 22 _ rfl h ⟨18, .phase⟩ (by simp) rfl
                    · exact hdc 22 _ rfl h ⟨19, .phase⟩ (by simp) rfl
                    · exact hdc 22 _ rfl h ⟨20, .data⟩ (by simp) rfl
                    · exact hdc 22 _ rfl h ⟨21, .data⟩ (by simp) rfl
                    · exact h
                  rw [hLi] at hq
                  cases hq
              have hcV : V = X1 ∨ V = X2 ∨ V = X3 := by
                cases h19 : Ls 19 <;> cases h20 : Ls 20 <;> simp [AnyM.memC, hst, h19, h20] at hC <;> simp [hC]
              obtain ⟨k1, k2, k3⟩ := HVX3.out V hcV
              rcases hc with rfl | rfl | rfl | rfl | rfl | rfl | rfl | rfl | rfl | rfl | rfl | rfl | rfl | rfl | rfl | rfl | rfl | rfl | rfl | rfl | rfl | rfl | rfl <;> obtain rfl := Option.some.inj ho
              · have e1 : ev (.tmp 10) = .slice (some ⟨U0.heap.size + 1, 0, none⟩) N N := he2 10 (by kernel_rfl)
                exact AnyOrd.gives_value (v := .slice (some ⟨U0.heap.size + 1, 0, none⟩) N N) (w' := V) (by simp [execOp, go_sem, e1]) ⟨rfl, AnyM.other rfl hC⟩
              · have e1 : ev (.tmp 8) = .pointer (some ⟨U0.heap.size, 0, none⟩) := he2 8 (by kernel_rfl)
                exact AnyOrd.gives_value (v := .pointer (some ⟨U0.heap.size, 1, none⟩)) (w' := V) (by simp [execOp, go_sem, e1]) ⟨rfl, AnyM.other rfl hC⟩
              · have e1 : ev (.tmp 96) = .pointer (some ⟨U0.heap.size, 1, none⟩) := he1 1 96 (by omega) rfl (by decide)
                exact AnyOrd.gives_value (v := .slice (some ⟨b, o, none⟩) es.length ca) (w' := V) (by simp [execOp, go_sem, e1, k1]) ⟨rfl, AnyM.other rfl hC⟩
              · have e1 : ev (.tmp 11) = .int .i64 (k : Int) := he2 11 (by kernel_rfl)
                exact AnyOrd.gives_value (v := .int .i64 (k : Int)) (w' := V) (by simp [execOp, go_sem, e1]) ⟨rfl, AnyM.other rfl hC⟩
              · have e1 : ev (.tmp 97) = .slice (some ⟨b, o, none⟩) es.length ca := he1 2 97 (by omega) rfl (by decide)
                have e2 : ev (.tmp 98) = .int .i64 (k : Int) := he1 3 98 (by omega) rfl (by decide)
                exact AnyOrd.gives_value (v := .pointer (some ⟨b, o + k * 2, none⟩)) (w' := V) (by simp [execOp, go_sem, e1, e2, hk0, hlti]) ⟨rfl, AnyM.other rfl hC⟩
              · have e1 : ev (.tmp 99) = .pointer (some ⟨b, o + k * 2, none⟩) := he1 4 99 (by omega) rfl (by decide)
                exact AnyOrd.gives_value (v := .pointer (some ⟨b, o + k * 2 + 1, none⟩)) (w' := V) (by simp [execOp, go_sem, e1]) ⟨rfl, AnyM.other rfl hC⟩
              · have e1 : ev (.tmp 100) = .pointer (some ⟨b, o + k * 2 + 1, none⟩) := he1 5 100 (by omega) rfl (by decide)
                exact AnyOrd.gives_value (v := .int .i64 (v : Int)) (w' := V) (by simp [execOp, go_sem, e1, k2]) ⟨rfl, AnyM.other rfl hC⟩
              · have e1 : ev (.tmp 10) = .slice (some ⟨U0.heap.size + 1, 0, none⟩) N N := he2 10 (by kernel_rfl)
                exact AnyOrd.gives_value (v := .slice (some ⟨U0.heap.size + 1, 0, none⟩) N N) (w' := V) (by simp [execOp, go_sem, e1]) ⟨rfl, AnyM.other rfl hC⟩
              · have e1 : ev (.tmp 8) = .pointer (some ⟨U0.heap.size, 0, none⟩) := he2 8 (by kernel_rfl)
                exact AnyOrd.gives_value (v := .pointer (some ⟨U0.heap.size, 1, none⟩)) (w' := V) (by simp [execOp, go_sem, e1]) ⟨rfl, AnyM.other rfl hC⟩
              · have e1 : ev (.tmp 103) = .pointer (some ⟨U0.heap.size, 1, none⟩) := he1 8 103 (by omega) rfl (by decide)
                exact AnyOrd.gives_value (v := .slice (some ⟨b, o, none⟩) es.length ca) (w' := V) (by simp [execOp, go_sem, e1, k1]) ⟨rfl, AnyM.other rfl hC⟩
              · have e1 : ev (.tmp 11) = .int .i64 (k : Int) := he2 11 (by kernel_rfl)
                exact AnyOrd.gives_value (v := .int .i64 (k : Int)) (w' := V) (by simp [execOp, go_sem, e1]) ⟨rfl, AnyM.other rfl hC⟩
              · have e1 : ev (.tmp 104) = .slice (some ⟨b, o, none⟩) es.length ca := he1 9 104 (by omega) rfl (by decide)
                have e2 : ev (.tmp 105) = .int .i64 (k : Int) := he1 10 105 (by omega) rfl (by decide)
                exact AnyOrd.gives_value (v := .pointer (some ⟨b, o + k * 2, none⟩)) (w' := V) (by simp [execOp, go_sem, e1, e2, hk0, hlti]) ⟨rfl, AnyM.other rfl hC⟩
              · have e1 : ev (.tmp 106) = .pointer (some ⟨b, o + k * 2, none⟩) := he1 11 106 (by omega) rfl (by decide)
                exact AnyOrd.gives_value (v := .pointer (some ⟨b, o + k * 2 + 1, none⟩)) (w' := V) (by simp [execOp, go_sem, e1]) ⟨rfl, AnyM.other rfl hC⟩
              · have e1 : ev (.tmp 107) = .pointer (some ⟨b, o + k * 2 + 1, none⟩) := he1 12 107 (by omega) rfl (by decide)
                exact AnyOrd.gives_value (v := .int .i64 (v : Int)) (w' := V) (by simp [execOp, go_sem, e1, k2]) ⟨rfl, AnyM.other rfl hC⟩
              · have e1 : ev (.tmp 102) = .slice (some ⟨U0.heap.size + 1, 0, none⟩) N N := he1 7 102 (by omega) rfl (by decide)
                have e2 : ev (.tmp 108) = .int .i64 (v : Int) := he1 13 108 (by omega) rfl (by decide)
                exact AnyOrd.gives_value (v := .pointer (some ⟨U0.heap.size + 1, v, none⟩)) (w' := V) (by simp [execOp, go_sem, e1, e2, v0, vn]) ⟨rfl, AnyM.other rfl hC⟩
              · have e1 : ev (.tmp 109) = .pointer (some ⟨U0.heap.size + 1, v, none⟩) := he1 14 109 (by omega) rfl (by decide)
                exact AnyOrd.gives_value (v := .slice A3 m2.length C3) (w' := V) (by simp [execOp, go_sem, e1, k3]) ⟨rfl, AnyM.other rfl hC⟩
              · have e1 : ev (.tmp 11) = .int .i64 (k : Int) := he2 11 (by kernel_rfl)
                exact AnyOrd.gives_value (v := .int .i64 (k : Int)) (w' := V) (by simp [execOp, go_sem, e1]) ⟨rfl, AnyM.other rfl hC⟩
              · have e1 : ev (.tmp 111) = .int .i64 (k : Int) := he1 16 111 (by omega) rfl (by decide)
                exact AnyOrd.gives_value (v := .int .i64 (2 * (k : Int))) (w' := V) (by simp [execOp, go_sem, e1, hwr, hec]) ⟨rfl, AnyM.other rfl hC⟩
              · have e1 : ev (.tmp 112) = .int .i64 (2 * (k : Int)) := he1 17 112 (by omega) rfl (by decide)
                exact AnyOrd.gives_value (v := .int .i64 (2 * (k : Int) + 1)) (w' := V) (by simp [execOp, go_sem, e1, hwr1, hec]) ⟨rfl, AnyM.other rfl hC⟩
              · have e1 : ev (.tmp 113) = .int .i64 (2 * (k : Int) + 1) := he1 18 113 (by omega) rfl (by decide)
                have hn20 : Ls 20 = false := by
                  cases h : Ls 20 with
                  | false => rfl
                  | true =>
                    have hq19 : Ls 19 = true := hdc 20 _ rfl h ⟨19, .data⟩ (by simp) rfl
                    rw [hLi] at hq19
                    cases hq19
                have hVe : V = X1 := by
                  simp only [AnyM.memC] at hC
                  simp only [hn20, hLi, hst, Bool.false_eq_true, if_false] at hC
                  exact hC
                rw [hVe]
                refine AnyOrd.gives_value (v := .slice (some ⟨X1.heap.size, 0, none⟩) 1 1) (w' := X2) (by simp [execOp, go_sem, e1, HWX2.out]) ⟨rfl, ?_⟩
                simp [AnyM.memC, AnyOrd.updB, hn20, hst]
              · have e1 : ev (.tmp 110) = .slice A3 m2.length C3 := he1 15 110 (by omega) rfl (by decide)
                have e2 : ev (.tmp 114) = .slice (some ⟨X1.heap.size, 0, none⟩) 1 1 := he1 19 114 (by omega) rfl (by decide)
                have hp : Ls 19 = true := haft ⟨19, .data⟩ (by simp) rfl
                have hVe : V = X2 := by
                  simp only [AnyM.memC] at hC
                  simp only [hLi, hp, hst, Bool.false_eq_true, if_false, if_true] at hC
                  exact hC
                rw [hVe]
                refine AnyOrd.gives_value (v := .slice A4 (m2.length + 1) C4) (w' := X3) (HRUNX3.out _ ev _ _ rfl rfl e1 e2) ⟨rfl, ?_⟩
                simp [AnyM.memC, AnyOrd.updB, hst]
              · have e1 : ev (.tmp 95) = .slice (some ⟨U0.heap.size + 1, 0, none⟩) N N := he1 0 95 (by omega) rfl (by decide)
                have e2 : ev (.tmp 101) = .int .i64 (v : Int) := he1 6 101 (by omega) rfl (by decide)
                exact AnyOrd.gives_value (v := .pointer (some ⟨U0.heap.size + 1, v, none⟩)) (w' := V) (by simp [execOp, go_sem, e1, e2, v0, vn]) ⟨rfl, AnyM.other rfl hC⟩
              · have e1 : ev (.tmp 116) = .pointer (some ⟨U0.heap.size + 1, v, none⟩) := he1 21 116 (by omega) rfl (by decide)
                have e2 : ev (.tmp 115) = .slice A4 (m2.length + 1) C4 := he1 20 115 (by omega) rfl (by decide)
                have hp : Ls 20 = true := haft ⟨20, .data⟩ (by simp) rfl
                have hVe : V = X3 := by
                  simp only [AnyM.memC] at hC
                  simp only [hLi, hp, Bool.false_eq_true, if_false, if_true] at hC
                  exact hC
                rw [hVe]
                rw [hVe] at k3
                refine AnyOrd.gives_skip (w' := (X3.setCell ⟨U0.heap.size + 1, v, none⟩ (.slice A4 (m2.length + 1) C4))) (by simp [execOp, go_sem, e1, e2, k3, HFX3.out]) ⟨rfl, ?_⟩
                simp [AnyM.memC, AnyOrd.updB]
            · intro Ls V hall hC
              unfold AnyM.memC at hC
              rw [if_pos (hall 22 (by decide))] at hC
              subst hC
              simp only [AnyOrd.canon, AnyOrd.dst, Array.size, List.length_cons, List.length_nil]
              simp [Act.put]
              clear hall
              go_wp2
              go_roundw
              case rel => exact ⟨k + 1, _, by omega, by go_num, HF4.out⟩
              case measure => simp [intOf]; omega
        · have hlti : ¬ (k : Int) < (es.length : Int) := by omega
          obtain rfl : k = es.length := by omega
          have HROT := Nu.hid (Fa.outs_rot HVAL.out)
          clear hlt hk
          go_wp2
          go_loopw [12] (fun cv wr => ∃ (i : Nat) (vs : List Value) (ls : List (List Int)), i ≤ rs.length ∧ cv = .int .i64 (i : Int) ∧ Fo U0 N ao ca es vs ls wr ∧ Ro.Rot N es ls) (fun cv _ => rs.length - (intOf cv).toNat)
          case atStart => exact ⟨0, _, _, Nat.zero_le _, rfl, H.out, HROT.out⟩
          case round =>
            obtain ⟨i, vs3, ls, hi, rfl, hfo, hrot⟩ := hrel
            clear H HROT y1 vs
            have H := Nu.hid hfo
            have HROT := Nu.hid hrot
            have hlen := hfo.len
            clear hfo hrot
            by_cases hgo : i < rs.length ∧ 0 < N
            · obtain ⟨hir, hN0⟩ := hgo
              have hiri : (i : Int) < (rs.length : Int) := by omega
              have hN0i : (0 : Int) < (N : Int) := by omega
              have hi0 : (0 : Int) ≤ (i : Int) := by omega
              obtain ⟨K, hK⟩ : ∃ K, K = i % N := ⟨_, rfl⟩
              have hKN : K < N := by rw [hK]; exact Nat.mod_lt _ hN0
              have hKm : (i : Int) % (N : Int) = (K : Int) := by rw [hK]; rfl
              have hK0 : (0 : Int) ≤ (K : Int) := by omega
              have hKi : (K : Int) < (N : Int) := by omega
              obtain ⟨L, hL⟩ : ∃ L, ls[K]? = some L := ⟨_, List.getElem?_eq_getElem (by omega)⟩
              have hLf := rot_few HROT.out hfew hL
              obtain ⟨A1, C1, hx1, hc1, how⟩ := H.out.row hL
              obtain ⟨x, hx⟩ : ∃ x, rs[i]? = some x := ⟨_, List.getElem?_eq_getElem hir⟩
              obtain ⟨b, o, rfl, c0⟩ := (HLR.out.ints.later (HBU.out.trans (H.out.low.mono HBU.out.size))) i x hx
              obtain ⟨p, hp⟩ : ∃ p, p = L.length := ⟨_, rfl⟩
              rw [← hp] at hx1 hc1 how hLf
              obtain ⟨jv, hjv⟩ : ∃ jv, x.tmod ((p : Int) + 1) = jv := ⟨_, rfl⟩
              have HX1 := Nu.hid hx1
              have HOW := Nu.hid how
              have HL := Nu.hid hL
              have HP := Nu.hid hp
              have hp1 : ¬ ((p : Int) + 1 = 0) := by omega
              clear hK hx hx1 how hL hp
              by_cases h1 : 0 < jv
              · by_cases h2 : jv < (p : Int)
                · obtain ⟨jq, rfl⟩ : ∃ jq : Nat, jv = (jq : Int) := ⟨jv.toNat, by omega⟩
                  obtain ⟨gb, hgb⟩ : ∃ gb, A1 = some ⟨gb, 0, none⟩ := by
                    have hz := HOW.out
                    unfold OwnZ at hz
                    rcases hz.2 with ⟨e, _⟩ | ⟨g, cap, cur, e, _⟩
                    · cases e
                      omega
                    · cases e
                      exact ⟨g, rfl⟩
                  subst hgb
                  obtain ⟨x0, hx0⟩ : ∃ x0, L[0]? = some x0 := ⟨_, List.getElem?_eq_getElem (by have := HP.out; omega)⟩
                  obtain ⟨y, hy⟩ : ∃ y, L[jq]? = some y := ⟨_, List.getElem?_eq_getElem (by have := HP.out; omega)⟩
                  obtain ⟨X1, hX1⟩ : ∃ X1, X1 = wr.drew := ⟨_, rfl⟩
                  have hF := H.out.later (W' := X1) (by rw [hX1]; exact (Below.refl _ _).drew)
                  obtain ⟨q1, q2, q3, q4, q5, hF2⟩ := hF.swap (c := C1) HL.out (by rw [← HP.out]; exact HX1.out) hx0 hy (by omega)
                  have HK1 := Nu.hid q1
                  have HF0 := Nu.hid q3
                  have HCJ := Nu.hid q4
                  have HFJ := Nu.hid q5
                  have HF2 := Nu.hid hF2
                  have HR2 := Nu.hid (Fa.rot_set HROT.out HL.out (Fa.swap_perm hx0 hy))
                  have HVS : Hid (∀ V, (V = X1 ∨ V = X1 ∨ V = X1.setCell ⟨gb, 0, none⟩ (.int .i64 y)) → V.cell? ⟨gb, jq, none⟩ = some (.int .i64 y)) := by
                    intro V hV
                    rcases hV with rfl | rfl | rfl
                    · exact q2
                    · exact q2
                    · exact q4
                  have hj0 : (0 : Int) ≤ (jq : Int) := by omega
                  have hl0 : (0 : Int) < (p : Int) := by omega
                  have hl1 : ¬ p = 0 := by omega
                  have hjl : ¬ p ≤ jq := by omega
                  clear hF q1 q2 q3 q4 q5 hF2 hx0 hy
                  go_wp2_with fail
                  refine wp_region_any (by kernel_rfl) ?_
                  have hX1' : X1 = { heap := wr.heap, tape := wr.tape, drawn := wr.drawn + 1, os := wr.os, output := wr.output } := hX1
                  rw [← hX1']
                  clear hX1 hX1'
                  refine AnyOrd.anyP (fun j => match j with | 0 => .slice (some ⟨gb, 0, none⟩) p C1 | 1 => .slice (some ⟨gb, 0, none⟩) p C1 | 2 => .int .i64 (jq : Int) | 3 => .slice (some ⟨gb, 0, none⟩) p C1 | 4 => .int .i64 (jq : Int) | 5 => .pointer (some ⟨gb, jq, none⟩) | 6 => .int .i64 y | 7 => .slice (some ⟨gb, 0, none⟩) p C1 | 8 => .pointer (some ⟨gb, 0, none⟩) | 9 => .int .i64 x0 | 10 => .pointer (some ⟨gb, 0, none⟩) | 12 => .pointer (some ⟨gb, jq, none⟩) | _ => undef) (AnyM.memC X1 [(13, ((X1.setCell ⟨gb, 0, none⟩ (.int .i64 y)).setCell ⟨gb, jq, none⟩ (.int .i64 x0))), (11, (X1.setCell ⟨gb, 0, none⟩ (.int .i64 y))), (9, X1)]) 198 rfl (by kernel_rfl) rfl ?_ ?_
                  · intro j o' Ls V ev ho hLi hC haft hdc he1 he2 hec hef
                    have hc : j = 0 ∨ j = 1 ∨ j = 2 ∨ j = 3 ∨ j = 4 ∨ j = 5 ∨ j = 6 ∨ j = 7 ∨ j = 8 ∨ j = 9 ∨ j = 10 ∨ j = 11 ∨ j = 12 ∨ j = 13 := by
                      have : j < 14 := (Array.getElem?_eq_some_iff.1 ho).1
                      omega
                    have hst : Ls 13 = false := by
                      cases h : Ls 13 with
                      | false => rfl
                      | true =>
                        exfalso
                        have hq : Ls j = true := by
                          rcases hc with rfl | rfl | rfl | rfl | rfl | rfl | rfl | rfl | rfl | rfl | rfl | rfl | rfl | rfl
                          · exact hdc 13 _ rfl h ⟨0, .phase⟩ (by simp) rfl
                          · exact hdc 13 _ rfl h ⟨1, .phase⟩ (by simp) rfl
                          · exact hdc 13 _ rfl h ⟨2, .phase⟩ (by simp) rfl
                          · exact hdc 13 _ rfl h ⟨3, .phase⟩ (by simp) rfl
                          · exact hdc 13 _ rfl h ⟨4, .phase⟩ (by simp) rfl
                          · exact hdc 13 _ rfl h ⟨5, .phase⟩ (by simp) rfl
                          · exact hdc 13 _ rfl h ⟨6, .phase⟩ (by simp) rfl
                          · exact hdc 13 _ rfl h ⟨7, .phase⟩ (by simp) rfl
                          · exact hdc 13 _ rfl h ⟨8, .phase⟩ (by simp) rfl
                          · exact hdc 13 _ rfl h ⟨9, .data⟩ (by simp) rfl
                          · exact hdc 13 _ rfl h ⟨10, .phase⟩ (by simp) rfl
                          · exact hdc 13 _ rfl h ⟨11, .phase⟩ (by simp) rfl
                          · exact hdc 13 _ rfl h ⟨12, .data⟩ (by simp) rfl
                          · exact h
                        rw [hLi] at hq
                        cases hq
                    have hcV : V = X1 ∨ V = X1 ∨ V = (X1.setCell ⟨gb, 0, none⟩ (.int .i64 y)) := by
                      cases h9 : Ls 9 <;> cases h11 : Ls 11 <;> simp [AnyM.memC, hst, h9, h11] at hC <;> simp [hC]
                    obtain k2 := HVS.out V hcV
                    rcases hc with rfl | rfl | rfl | rfl | rfl | rfl | rfl | rfl | rfl | rfl | rfl | rfl | rfl | rfl <;> obtain rfl := Option.some.inj ho
                    · have e1 : ev (.tmp 14) = .slice (some ⟨gb, 0, none⟩) p C1 := he2 14 (by kernel_rfl)
                      exact AnyOrd.gives_value (v := .slice (some ⟨gb, 0, none⟩) p C1) (w' := V) (by simp [execOp, go_sem, e1]) ⟨rfl, AnyM.other rfl hC⟩
                    · have e1 : ev (.tmp 14) = .slice (some ⟨gb, 0, none⟩) p C1 := he2 14 (by kernel_rfl)
                      exact AnyOrd.gives_value (v := .slice (some ⟨gb, 0, none⟩) p C1) (w' := V) (by simp [execOp, go_sem, e1]) ⟨rfl, AnyM.other rfl hC⟩
                    · have e1 : ev (.tmp 15) = .int .i64 (jq : Int) := he2 15 (by kernel_rfl)
                      exact AnyOrd.gives_value (v := .int .i64 (jq : Int)) (w' := V) (by simp [execOp, go_sem, e1]) ⟨rfl, AnyM.other rfl hC⟩
                    · have e1 : ev (.tmp 14) = .slice (some ⟨gb, 0, none⟩) p C1 := he2 14 (by kernel_rfl)
                      exact AnyOrd.gives_value (v := .slice (some ⟨gb, 0, none⟩) p C1) (w' := V) (by simp [execOp, go_sem, e1]) ⟨rfl, AnyM.other rfl hC⟩
                    · have e1 : ev (.tmp 15) = .int .i64 (jq : Int) := he2 15 (by kernel_rfl)
                      exact AnyOrd.gives_value (v := .int .i64 (jq : Int)) (w' := V) (by simp [execOp, go_sem, e1]) ⟨rfl, AnyM.other rfl hC⟩
                    · have e1 : ev (.tmp 153) = .slice (some ⟨gb, 0, none⟩) p C1 := he1 3 153 (by omega) rfl (by decide)
                      have e2 : ev (.tmp 154) = .int .i64 (jq : Int) := he1 4 154 (by omega) rfl (by decide)
                      exact AnyOrd.gives_value (v := .pointer (some ⟨gb, jq, none⟩)) (w' := V) (by simp [execOp, go_sem, e1, e2, hj0, h2]) ⟨rfl, AnyM.other rfl hC⟩
                    · have e1 : ev (.tmp 155) = .pointer (some ⟨gb, jq, none⟩) := he1 5 155 (by omega) rfl (by decide)
                      exact AnyOrd.gives_value (v := .int .i64 y) (w' := V) (by simp [execOp, go_sem, e1, k2]) ⟨rfl, AnyM.other rfl hC⟩
                    · have e1 : ev (.tmp 14) = .slice (some ⟨gb, 0, none⟩) p C1 := he2 14 (by kernel_rfl)
                      exact AnyOrd.gives_value (v := .slice (some ⟨gb, 0, none⟩) p C1) (w' := V) (by simp [execOp, go_sem, e1]) ⟨rfl, AnyM.other rfl hC⟩
                    · have e1 : ev (.tmp 157) = .slice (some ⟨gb, 0, none⟩) p C1 := he1 7 157 (by omega) rfl (by decide)
                      exact AnyOrd.gives_value (v := .pointer (some ⟨gb, 0, none⟩)) (w' := V) (by simp [execOp, go_sem, e1, hl1, hec]) ⟨rfl, AnyM.other rfl hC⟩
                    · have e1 : ev (.tmp 158) = .pointer (some ⟨gb, 0, none⟩) := he1 8 158 (by omega) rfl (by decide)
                      have hn11 : Ls 11 = false := by
                        cases h : Ls 11 with
                        | false => rfl
                        | true =>
                          have hq9 : Ls 9 = true := hdc 11 _ rfl h ⟨9, .phase⟩ (by simp) rfl
                          rw [hLi] at hq9
                          cases hq9
                      have hVe : V = X1 := by
                        simp only [AnyM.memC] at hC
                        simp only [hn11, hLi, hst, Bool.false_eq_true, if_false] at hC
                        exact hC
                      rw [hVe]
                      refine AnyOrd.gives_value (v := .int .i64 x0) (w' := X1) (by simp [execOp, go_sem, e1, HK1.out]) ⟨rfl, ?_⟩
                      simp [AnyM.memC, AnyOrd.updB, hn11, hst]
                    · have e1 : ev (.tmp 150) = .slice (some ⟨gb, 0, none⟩) p C1 := he1 0 150 (by omega) rfl (by decide)
                      exact AnyOrd.gives_value (v := .pointer (some ⟨gb, 0, none⟩)) (w' := V) (by simp [execOp, go_sem, e1, hl1, hec]) ⟨rfl, AnyM.other rfl hC⟩
                    · have e1 : ev (.tmp 160) = .pointer (some ⟨gb, 0, none⟩) := he1 10 160 (by omega) rfl (by decide)
                      have e2 : ev (.tmp 156) = .int .i64 y := he1 6 156 (by omega) rfl (by decide)
                      have hp : Ls 9 = true := haft ⟨9, .phase⟩ (by simp) rfl
                      have hVe : V = X1 := by
                        simp only [AnyM.memC] at hC
                        simp only [hLi, hp, hst, Bool.false_eq_true, if_false, if_true] at hC
                        exact hC
                      rw [hVe]
                      refine AnyOrd.gives_skip (w' := (X1.setCell ⟨gb, 0, none⟩ (.int .i64 y))) (by simp [execOp, go_sem, e1, e2, HK1.out, HF0.out]) ⟨rfl, ?_⟩
                      simp [AnyM.memC, AnyOrd.updB, hst]
                    · have e1 : ev (.tmp 151) = .slice (some ⟨gb, 0, none⟩) p C1 := he1 1 151 (by omega) rfl (by decide)
                      have e2 : ev (.tmp 152) = .int .i64 (jq : Int) := he1 2 152 (by omega) rfl (by decide)
                      exact AnyOrd.gives_value (v := .pointer (some ⟨gb, jq, none⟩)) (w' := V) (by simp [execOp, go_sem, e1, e2, hj0, h2]) ⟨rfl, AnyM.other rfl hC⟩
                    · have e1 : ev (.tmp 161) = .pointer (some ⟨gb, jq, none⟩) := he1 12 161 (by omega) rfl (by decide)
                      have e2 : ev (.tmp 159) = .int .i64 x0 := he1 9 159 (by omega) rfl (by decide)
                      have hp : Ls 11 = true := haft ⟨11, .chain⟩ (by simp) rfl
                      have hVe : V = (X1.setCell ⟨gb, 0, none⟩ (.int .i64 y)) := by
                        simp only [AnyM.memC] at hC
                        simp only [hLi, hp, Bool.false_eq_true, if_false, if_true] at hC
                        exact hC
                      rw [hVe]
                      refine AnyOrd.gives_skip (w' := ((X1.setCell ⟨gb, 0, none⟩ (.int .i64 y)).setCell ⟨gb, jq, none⟩ (.int .i64 x0))) (by simp [execOp, go_sem, e1, e2, HCJ.out, HFJ.out]) ⟨rfl, ?_⟩
                      simp [AnyM.memC, AnyOrd.updB]
                  · intro Ls V hall hC
                    unfold AnyM.memC at hC
                    rw [if_pos (hall 13 (by decide))] at hC
                    subst hC
                    simp only [AnyOrd.canon, AnyOrd.dst, Array.size, List.length_cons, List.length_nil]
                    simp [Act.put]
                    clear hall
                    go_wp2
                    go_roundw
                    case rel => exact ⟨i + 1, _, _, by omega, by go_num, HF2.out, HR2.out⟩
                    case measure => simp [intOf]; omega
                · go_wp2
                  go_roundw
                  case rel => exact ⟨i + 1, _, _, by omega, by go_num, H.out, HROT.out⟩
                  case measure => simp [intOf]; omega
              · go_wp2
                go_roundw
                case rel => exact ⟨i + 1, _, _, by omega, by go_num, H.out, HROT.out⟩
                case measure => simp [intOf]; omega
            · have hck := Ro.check_iff.2 HROT.out
              have HG0 := Nu.hid (H.out.gs HE.out hfew hN2 HROT.out)
              obtain ⟨hfz, hfc⟩ : Fa.gz N es ls = 0 ∧ (Fa.all es ls).length + Fa.lonely N es = Co.cnt N (Fa.cp N es) := by
                have := Fa.frE_flat (l := l) (ls := ls) (by rw [← HN.out, ← HES.out]; exact HROT.out)
                rw [← HN.out, ← HES.out] at this
                exact this
              have HFZ := Nu.hid hfz
              obtain ⟨F, hF⟩ : ∃ F, F = (Fa.all es ls).length := ⟨_, rfl⟩
              obtain ⟨c, hcc⟩ : ∃ c, c = Co.cnt N (Fa.cp N es) := ⟨_, rfl⟩
              obtain ⟨q, hii⟩ : ∃ q, q = Fa.lonely N es := ⟨_, rfl⟩
              have hcl : c ≤ N := by rw [hcc]; exact Co.cnt_le _ _
              have hil : q ≤ N := by rw [hii]; exact Co.cntTo_le _ _
              rw [← hF, ← hcc, ← hii] at hfc
              have hsub : (c : Int) - (q : Int) = (F : Int) := by omega
              have HCC := Nu.hid hcc
              have HII := Nu.hid hii
              have HFF := Nu.hid hF
              have HCK := Nu.hid hck
              have HLEN := Nu.hid hlen
              clear hck hfz hF hcc hii H HROT hlen hfc
              have hor : ¬ i < rs.length ∨ (i < rs.length ∧ N = 0) := by omega
              rcases hor with h1 | ⟨h1, h2⟩
              · have h1i : ¬ (i : Int) < (rs.length : Int) := by omega
                obtain ⟨x0, x1⟩ := HG0.out.cells
                have HCGE := Nu.hid HG0.out.copyG
                go_wp2_with (go_at_call 11; refine HCGE.out.mono ?_; rintro e W11 ⟨coE, ccE, rfl, he, hb⟩; refine Hid.out ?_)
                refine Nu.hid ?_
                have HG11 := Nu.hid (HG0.out.later hb)
                have HOF := Nu.hid (of_any (N : Int) coE ccE es W11 he (by omega))
                unfold graphVal at HOF
                clear he hb x0 x1 HCGE HG0
                go_wp2_with (go_at_call 23; refine HOF.out.mono ?_; intro e W12 hp; obtain ⟨⟨m1, ov, hmn, -, rfl, -⟩ | ⟨hcv, -⟩, hb⟩ := hp <;> refine Hid.out ?_)
                all_goals (first | (exact absurd (Si.valid_iff.2 HVAL.out) (by rw [hcv]; simp)) | skip)
                refine Nu.hid ?_
                have hm1 : m1 = N := by omega
                have ec : Co.cnt m1 (Co.ofG m1 es) = c := by rw [hm1]; exact HCC.out.symm
                rw [ec]
                have HG12 := Nu.hid (HG11.out.later hb)
                clear hb ec hmn hm1 HOF HG11
                obtain ⟨x0, x1⟩ := HG12.out.cells
                have HCGF := Nu.hid HG12.out.copyG
                go_wp2_with (go_at_call 11; refine HCGF.out.mono ?_; rintro e W13 ⟨coF, ccF, rfl, he, hb⟩; refine Hid.out ?_)
                refine Nu.hid ?_
                have HG13 := Nu.hid (HG12.out.later hb)
                have HIS := Nu.hid (isolated_any (N : Int) coF ccF es W13 he (by omega))
                unfold graphVal at HIS
                clear he hb x0 x1 HCGF HG12
                go_wp2_with (go_at_call 24; refine HIS.out.mono ?_; intro e W14 hp; obtain ⟨⟨m2, hmn, -, rfl⟩ | ⟨hcv, -⟩, hb⟩ := hp <;> refine Hid.out ?_)
                all_goals (first | (exact absurd (Si.valid_iff.2 HVAL.out) (by rw [hcv]; simp)) | skip)
                refine Nu.hid ?_
                have hm2 : m2 = N := by omega
                have ei : Co.iso m2 es = q := by rw [hm2]; exact HII.out.symm
                rw [ei]
                have HG14 := Nu.hid (HG13.out.later hb)
                clear hb ei hmn hm2 HIS HG13
                obtain ⟨x0, x1⟩ := HG14.out.cells
                have HCGA := Nu.hid HG14.out.copyG
                go_wp2_with (go_at_call 11; refine HCGA.out.mono ?_; rintro e W15 ⟨coA, ccA, rfl, he, hb⟩; refine Hid.out ?_)
                refine Nu.hid ?_
                have HG15 := Nu.hid (HG14.out.later hb)
                have HEA := Nu.hid he
                clear he hb x0 x1 HCGA HG14
                have HCRA := Nu.hid (HG15.out.copyR (xc := N))
                rw [HLEN.out] at HCRA
                go_wp2_with (go_at_call 12; refine HCRA.out.mono ?_; rintro e W16 ⟨yoA, ycA, rfl, hx, hb⟩; refine Hid.out ?_)
                refine Nu.hid ?_
                have HG16 := Nu.hid (HG15.out.later hb)
                have HCA3 := Nu.hid (HG16.out.of (cc := ccA) (yc := ycA) (HEA.out.later hb) hx)
                rw [HLEN.out, HCK.out, Fa.orN_ok (c := 0) rfl, ← HFF.out] at HCA3
                clear hx hb HCRA HG15
                go_wp2_with (go_at_call 10; refine HCA3.out.mono ?_; rintro e W17 ⟨o1, q1, vs1, rfl, -, hb⟩; refine Hid.out ?_)
                refine Nu.hid ?_
                have HG17 := Nu.hid (HG16.out.later hb)
                clear hb HCA3 HG16
                obtain ⟨x0, x1⟩ := HG17.out.cells
                have HCA4 := Nu.hid (HG17.out.flat (cc := ca) (yc := N) HG17.out.gr.edges HG17.out.gr.rows)
                rw [HLEN.out, HCK.out, Int.toNat_natCast, HFZ.out, decide_eq_true (show (0 : Int) = 0 ∧ (0 : Int) = 0 from ⟨rfl, rfl⟩)] at HCA4
                have q2 : IntKind.i64.wrap ((c : Int) - (q : Int)) = (c : Int) - (q : Int) := by rw [IntKind.wrap_i64]; omega
                have q3 : ((F : Int) == (c : Int) - (q : Int)) = true := by rw [hsub]; simp
                go_wp2_with (go_at_call 20; refine HCA4.out.mono ?_; rintro e W18 ⟨rfl, hb⟩; refine Hid.out ?_)
                refine Nu.hid ?_
                have HBE := Nu.hid (HG17.out.later hb).gr.low
                clear hb HCA4
                go_wp2
                go_ret
                exact ⟨rfl, HBU.out.trans (HBE.out.mono HBU.out.size)⟩
              · have h1i : (i : Int) < (rs.length : Int) := by omega
                have h2i : ¬ (0 : Int) < (N : Int) := by omega
                clear h1 h2
                obtain ⟨x0, x1⟩ := HG0.out.cells
                have HCGE := Nu.hid HG0.out.copyG
                go_wp2_with (go_at_call 11; refine HCGE.out.mono ?_; rintro e W11 ⟨coE, ccE, rfl, he, hb⟩; refine Hid.out ?_)
                refine Nu.hid ?_
                have HG11 := Nu.hid (HG0.out.later hb)
                have HOF := Nu.hid (of_any (N : Int) coE ccE es W11 he (by omega))
                unfold graphVal at HOF
                clear he hb x0 x1 HCGE HG0
                go_wp2_with (go_at_call 23; refine HOF.out.mono ?_; intro e W12 hp; obtain ⟨⟨m1, ov, hmn, -, rfl, -⟩ | ⟨hcv, -⟩, hb⟩ := hp <;> refine Hid.out ?_)
                all_goals (first | (exact absurd (Si.valid_iff.2 HVAL.out) (by rw [hcv]; simp)) | skip)
                refine Nu.hid ?_
                have hm1 : m1 = N := by omega
                have ec : Co.cnt m1 (Co.ofG m1 es) = c := by rw [hm1]; exact HCC.out.symm
                rw [ec]
                have HG12 := Nu.hid (HG11.out.later hb)
                clear hb ec hmn hm1 HOF HG11
                obtain ⟨x0, x1⟩ := HG12.out.cells
                have HCGF := Nu.hid HG12.out.copyG
                go_wp2_with (go_at_call 11; refine HCGF.out.mono ?_; rintro e W13 ⟨coF, ccF, rfl, he, hb⟩; refine Hid.out ?_)
                refine Nu.hid ?_
                have HG13 := Nu.hid (HG12.out.later hb)
                have HIS := Nu.hid (isolated_any (N : Int) coF ccF es W13 he (by omega))
                unfold graphVal at HIS
                clear he hb x0 x1 HCGF HG12
                go_wp2_with (go_at_call 24; refine HIS.out.mono ?_; intro e W14 hp; obtain ⟨⟨m2, hmn, -, rfl⟩ | ⟨hcv, -⟩, hb⟩ := hp <;> refine Hid.out ?_)
                all_goals (first | (exact absurd (Si.valid_iff.2 HVAL.out) (by rw [hcv]; simp)) | skip)
                refine Nu.hid ?_
                have hm2 : m2 = N := by omega
                have ei : Co.iso m2 es = q := by rw [hm2]; exact HII.out.symm
                rw [ei]
                have HG14 := Nu.hid (HG13.out.later hb)
                clear hb ei hmn hm2 HIS HG13
                obtain ⟨x0, x1⟩ := HG14.out.cells
                have HCGA := Nu.hid HG14.out.copyG
                go_wp2_with (go_at_call 11; refine HCGA.out.mono ?_; rintro e W15 ⟨coA, ccA, rfl, he, hb⟩; refine Hid.out ?_)
                refine Nu.hid ?_
                have HG15 := Nu.hid (HG14.out.later hb)
                have HEA := Nu.hid he
                clear he hb x0 x1 HCGA HG14
                have HCRA := Nu.hid (HG15.out.copyR (xc := N))
                rw [HLEN.out] at HCRA
                go_wp2_with (go_at_call 12; refine HCRA.out.mono ?_; rintro e W16 ⟨yoA, ycA, rfl, hx, hb⟩; refine Hid.out ?_)
                refine Nu.hid ?_
                have HG16 := Nu.hid (HG15.out.later hb)
                have HCA3 := Nu.hid (HG16.out.of (cc := ccA) (yc := ycA) (HEA.out.later hb) hx)
                rw [HLEN.out, HCK.out, Fa.orN_ok (c := 0) rfl, ← HFF.out] at HCA3
                clear hx hb HCRA HG15
                go_wp2_with (go_at_call 10; refine HCA3.out.mono ?_; rintro e W17 ⟨o1, q1, vs1, rfl, -, hb⟩; refine Hid.out ?_)
                refine Nu.hid ?_
                have HG17 := Nu.hid (HG16.out.later hb)
                clear hb HCA3 HG16
                obtain ⟨x0, x1⟩ := HG17.out.cells
                have HCA4 := Nu.hid (HG17.out.flat (cc := ca) (yc := N) HG17.out.gr.edges HG17.out.gr.rows)
                rw [HLEN.out, HCK.out, Int.toNat_natCast, HFZ.out, decide_eq_true (show (0 : Int) = 0 ∧ (0 : Int) = 0 from ⟨rfl, rfl⟩)] at HCA4
                have q2 : IntKind.i64.wrap ((c : Int) - (q : Int)) = (c : Int) - (q : Int) := by rw [IntKind.wrap_i64]; omega
                have q3 : ((F : Int) == (c : Int) - (q : Int)) = true := by rw [hsub]; simp
                go_wp2_with (go_at_call 20; refine HCA4.out.mono ?_; rintro e W18 ⟨rfl, hb⟩; refine Hid.out ?_)
                refine Nu.hid ?_
                have HBE := Nu.hid (HG17.out.later hb).gr.low
                clear hb HCA4
                go_wp2
                go_ret
                exact ⟨rfl, HBU.out.trans (HBE.out.mono HBU.out.size)⟩

set_option maxRecDepth 100000 in
/-- What the walk gives, for every argument and every world. -/
theorem contract (H : Type) (enc : TypeId × Value → H) (W : World) (base : Nat) (args : Array Value) (ds gs : List (DataW H)) (before : List MemPlace)
    (hval : ∀ (j : Nat) t v, Try.f7.params[j]? = some t → args[j]? = some v → Value.okWide Try.prog W .any base t v)
    (hW : DataW.Whole enc Try.prog Try.f7.params.toList Rows.facesForestSpec.vars false W args.toList ds gs before)
    (hsz : (DataW.weightsEach Try.prog (Try.f7.params.toList ++ (OpenSpec.ofChange Rows.facesForestSpec).bare.plain.varTypes Try.prog) (ds ++ gs)).all (· ≤ reachBytes) = true)
    :
    Calls Try.prog 7 args W fun e W' => ∃ v, e = .returned v ∧ Rows.facesForestSpec.post enc Try.prog Try.f7 false true false false W args v W' := by
  have hW' := hW
  obtain ⟨p, q, hA0, hV, rfl, hfz, hnd⟩ := hW
  have hA : DataW.TrodAll enc Try.prog W 0 (fun _ => true) true Try.f7.params.toList args.toList ds p := hA0
  rw [Try.params7] at hA hval hsz
  obtain ⟨v0, vs0, d0, ds0, p0, q0, hargs, rfl, rfl, h0, r0⟩ := trodAll_cons hA
  obtain ⟨v1, vs1, d1, ds1, p1, q1, rfl, rfl, rfl, h1, r1⟩ := trodAll_cons r0
  obtain ⟨rfl, rfl, rfl⟩ := trodAll_nil r1
  obtain rfl : args = #[v0, v1] := by cases args; simp_all
  obtain ⟨rfl, rfl⟩ := trodVars_none hV
  obtain ⟨a0, len0, cap0, rfl⟩ := okWide_slice Try.underlying36 (hval 0 36 v0 rfl rfl)
  have k0 := h0
  have lt0 : ∀ x ∈ p0, x.block < W.heap.size := by obtain ⟨m, hm⟩ := k0; exact DataW.trod_lt m _ _ _ hm
  obtain ⟨z0, w0⟩ := IsRow.of_trod (j := 0) Try.underlying36 Try.underlying3 cellsInt bytesInt h0 hsz rfl rfl
  obtain ⟨a1, len1, cap1, rfl⟩ := okWide_slice Try.underlying36 (hval 1 36 v1 rfl rfl)
  have k1 := h1
  have lt1 : ∀ x ∈ p1, x.block < W.heap.size := by obtain ⟨m, hm⟩ := k1; exact DataW.trod_lt m _ _ _ hm
  obtain ⟨z1, w1⟩ := IsRow.of_trod (j := 1) Try.underlying36 Try.underlying3 cellsInt bytesInt h1 hsz rfl rfl
  clear hA0
  refine (walk a0 len0 cap0 z0 a1 len1 cap1 z1 W w0 w1).mono fun e W' ⟨he, bel⟩ => ?_
  subst he
  exact ⟨_, rfl, _, _, _, [], _, [], hW', trodAll_mk1 (shut_bool Try.underlying4 _), (trodAll_cons_mk (Below.trod laidOut (by kernel_rfl) (of_decide_eq_true (by kernel_rfl)) k0 bel lt0) (trodAll_cons_mk (Below.trod laidOut (by kernel_rfl) (of_decide_eq_true (by kernel_rfl)) k1 bel lt1) trodAll_mk0)), rfl, bel.frame _, fun h => by cases h⟩

theorem laid_met (os : Os) : laidMet Try.prog Rows.facesForestRow.laid ((settled os).forCall (fun _ _ => 0) ⟨#[], #[.slice none 0 0, .slice none 0 0], []⟩).memory :=
  laidMet_of_run' 100 (by kernel_rfl) (by kernel_rfl)
theorem reads (os : Os) {H : Type} (enc : TypeId × Value → H) : ∃ places, DataW.whole enc Try.prog ((settled os).forCall (fun _ _ => 0) ⟨#[], #[.slice none 0 0, .slice none 0 0], []⟩).memory Try.f7.params.toList Rows.facesForestSpec.vars false (#[.slice none 0 0, .slice none 0 0] : Array Value).toList 8 = some ([.nil, .nil], [], places) :=
  ⟨[], by kernel_rfl⟩

set_option maxRecDepth 100000 in
theorem lifted (os : Os) (started : os.Started) (H : Type) (enc : TypeId × Value → H) (F : Stop.Interp) :
    ReturnsInHanded {} Try.checked os 7 .any ((OpenSpec.ofChange Rows.facesForestSpec).preRow enc Try.prog Try.f7 Rows.facesForestRow.domain false Rows.facesForestRow.laid) (((OpenSpec.ofChange Rows.facesForestSpec).at F).post enc Try.prog Try.f7 false true false false) := by
  obtain ⟨places, hx⟩ := reads os enc
  refine returnsInHanded_of_row (C := Try.checked) (s := (OpenSpec.ofChange Rows.facesForestSpec)) own started (by kernel_rfl) Try.func7
    (witness_row_at (enc := enc) (C := Try.checked) false (settled os) #[.slice none 0 0, .slice none 0 0] rfl (by kernel_rfl) (by kernel_rfl) (by kernel_rfl)
      (OpenSpec.preRow_of_cond 8 hx (by kernel_rfl) (fun k hk => by cases hk) (by kernel_rfl) (laid_met os))) ?_
  intro W base args ds gs before hval hW _ _ hsz _ _ _
  exact contract H enc W base args ds gs before hval hW hsz 

theorem said : Rows.FacesForestSaid :=
  OpenClaim.holds_of_cond 7 Try.f7 rfl rfl rfl rfl rfl rfl rfl ⟨rfl, rfl, rfl, rfl, rfl⟩ rfl rfl rfl rfl rfl (by kernel_rfl) Try.func7 (by kernel_rfl)
    (of_decide_eq_true (by kernel_rfl)) (by unfold Func.isWrapper; first | (rw [if_pos (by decide +kernel)]; kernel_rfl) | (rw [if_neg (by decide +kernel)]; exact ⟨rfl, rfl⟩))
    (fun os started H enc _ F => by rw [OpenClaim.pre_eq_preRow]; exact lifted os started H enc F)

end lawFF

theorem facesForest_holds : Rows.FacesForestSaid := lawFF.said

#print axioms facesForest_holds
end Go.Proofs.Ytfkmldopfhdbkaa
