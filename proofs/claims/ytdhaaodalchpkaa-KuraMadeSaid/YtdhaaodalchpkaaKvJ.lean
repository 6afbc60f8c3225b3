/-
  Layer 15, the program: lists of pairs; five.
-/
import Derived.Test.YtdhaaodalchpkaaKvI
import Derived.Test.YtdhaaodalchpkaaMgI
import Derived.Laws.AppendOwnNone
import Derived.Sort.Grow
namespace Go.Proofs.Ytdhaaodalchpkaa
open Go.RowKit Go.Sort Go.Maps

theorem Try.infoPair15 : (Try.prog.info? 50).map (fun i => (i.zero, i.size, i.bytes)) = some (some (.agg #[.int .i64 0, .int .i64 0]), 2, 16) := by kernel_rfl

/-- v is a slice of the pairs ps, laid since block B. -/
def OwnP (w : World) (B : Nat) (v : Value) (ps : List (Int × Int)) : Prop := w.ownsRow B 50 2 v ps.length (flatE ps)
theorem OwnP.nil (w : World) (B : Nat) : OwnP w B (.slice none 0 0) [] := World.ownsRow_nil _ _ _ _
theorem OwnP.form {w : World} {B : Nat} {v : Value} {es : List (Int × Int)} (h : OwnP w B v es) : ∃ ao cap, v = .slice ao es.length cap ∧ EdgesAt w ao es ∧ (∀ x, ao = some x → B ≤ x.block ∧ x.block < w.heap.size) := by
  have h' := h
  unfold OwnP at h'
  rcases h.2 with ⟨rfl, h0⟩ | ⟨g, cap, cur, rfl, hg, hh, hc, hm, _⟩
  · refine ⟨none, 0, by rw [h0], fun j p hj => ?_, fun x h => by cases h⟩
    rw [List.length_eq_zero_iff.1 h0] at hj
    simp at hj
  · refine ⟨_, cap, rfl, fun j p hj => ⟨g, 0, rfl, ?_⟩, fun x h => by cases h; exact ⟨hg, lt_of_block hh⟩⟩
    have hcl := World.ownsRow.cells h' (g := g) rfl
    simp only [addrE] at hcl
    obtain ⟨h0, h1⟩ := flatE_at es j p hj
    rw [Nat.zero_add]
    exact ⟨hcl _ _ h0, hcl _ _ h1⟩
theorem OwnP.later {w w' : World} {B : Nat} {v : Value} {ps : List (Int × Int)} (h : OwnP w B v ps) (hb : Below w.heap.size w w') : OwnP w' B v ps := row_same h fun g _ _ hg => hb.block g hg

/-- 'append(v, [2]int{y, z})'. -/
theorem wpList_pushP {ops : Array Oper} {rest : List Oper} {o : Oper} {a : Act} {Q : Exit → Act → World → Prop} (hgd : o.guard = none) (s x : Operand)
    (ho : o.op = .call { callee := .builtin .append, args := #[s, x], argTypes := #[49, 49] }) (W : World) (B : Nat) (v : Value) (l : List (Int × Int)) (y z : Int) (hown : OwnP W B v l)
    (hB : B ≤ W.heap.size) (hl : l.length ≤ 8796093022000) (hs : a.eval s = v) (hx : a.eval x = .slice (some ⟨W.heap.size, 0, none⟩) 1 1)
    (h : ∀ v' w', OwnP w' B v' (l ++ [(y, z)]) → Below B W w' → wpList Try.prog ops Q rest (a.put o.dst v') w') :
    wpList Try.prog ops Q (o :: rest) a (W.alloc (.cells #[.int .i64 y, .int .i64 z] 50)) := by
  obtain ⟨i0, hi, hz0, hz1, hz2⟩ := info_parts Try.infoPair15
  have hb0 : Below B W (W.alloc (.cells #[.int .i64 y, .int .i64 z] 50)) := (Below.refl _ _).alloc hB _
  refine wpList_append_own _ hgd s x 49 ho B 50 i0 (.agg #[.int .i64 0, .int .i64 0]) 2 16 Try.underlying49 hi hz0 hz1 hz2 rfl (by decide) _ _ _ hs (World.ownsRow.alloc hown _) ⟨W.heap.size, 0, none⟩ 1 1 [.int .i64 y, .int .i64 z] hx rfl (new_two_e _ _ rfl _ _ _) (by simp [Value.oneCell']) (by unfold maxLen; omega) (by omega) (by simp; omega) ?_
  intro v' w' hown' hg _
  have ho' : OwnP w' B v' (l ++ [(y, z)]) := by
    unfold OwnP
    rw [flatE_snoc, List.length_append]
    exact hown'
  exact h v' w' ho' (hb0.grown hg (by simp; omega) (fun b hb => (World.ownsRow.lt hown b hb).1))

namespace Ku
/-- The pairs of the i-th with the j next ones. -/
def pin (L : List Int) (i : Nat) : Nat → List (Int × Int)
  | 0 => []
  | j + 1 => pin L i j ++ [(gI L i, gI L (i + 1 + j))]
def pout (L : List Int) : Nat → List (Int × Int)
  | 0 => []
  | i + 1 => pout L i ++ pin L i (L.length - (i + 1))
theorem pin_length (L : List Int) (i j : Nat) : (pin L i j).length = j := by
  induction j with
  | zero => rfl
  | succ j ih => simp [pin, ih]
theorem pout_length (L : List Int) (i : Nat) : (pout L i).length ≤ i * L.length := by
  induction i with
  | zero => simp [pout]
  | succ i ih =>
    unfold pout
    rw [List.length_append, pin_length, Nat.succ_mul]
    omega
/-- What kura answers, by what an elder world has. -/
theorem KurP.older {B : Nat} {cs : List Value} {R : List (List Int)} {kd : Int} {bv : Value} {ps : List (Int × Int)} {w w1 w' : World} {e : Ending} (h : KurP B cs R kd bv ps w1 e w') (hb : Below w.heap.size w w1) : KurP B cs R kd bv ps w e w' := by
  obtain ⟨hc, hw⟩ := h
  refine ⟨?_, ((Wrote.refl _ w).later hb).trans hw⟩
  rcases hc with hc | ⟨ha, pv, vs, he, hr, ho, hin⟩
  · exact .inl hc
  · exact .inr ⟨ha, pv, vs, he, hr, fun b hb' => Nat.le_trans hb.size (ho b hb'), hin⟩
theorem KurP.shape {B : Nat} {cs : List Value} {R : List (List Int)} {kd : Int} {ba : Option Addr} {bn bc : Nat} {ps : List (Int × Int)} {w w' : World} {e : Ending} (h : KurP B cs R kd (.slice ba bn bc) ps w e w') : ∃ (v1 : Int) (s1 : Option Addr) (s2 s3 : Nat) (u1 : Option Addr) (u2 u3 : Nat) (r : Bool), e = .returned (.tuple #[.agg #[.int .i64 v1, .slice s1 s2 s3, .slice u1 u2 u3], .bool r]) := by
  rcases h.1 with ⟨_, h⟩ | ⟨_, pv, vs, h, hr, _⟩
  · exact ⟨_, _, _, _, _, _, _, _, h⟩
  · obtain ⟨a, c, rfl⟩ := row_shape hr
    exact ⟨_, _, _, _, _, _, _, _, h⟩
/-- .. and with a cell written that is none of these. -/
theorem KurP.far {B : Nat} {cs : List Value} {R : List (List Int)} {kd : Int} {bv : Value} {ps : List (Int × Int)} {w w1 w' V : World} {e : Ending} (h : KurP B cs R kd bv ps w1 e w') (hb : Below w.heap.size w w1) {c : Nat} (hc : w.heap.size ≤ c ∧ c < w1.heap.size) (hcs : ∀ b, inV cs b → b < w.heap.size) (hV : ∀ b, b ≠ c → V.heap[b]? = w'.heap[b]?) (hs : V.heap.size = w'.heap.size) (h1 : V.os = w'.os) (h2 : V.tape = w'.tape) (h3 : V.output = w'.output) : KurP B cs R kd bv ps w e V := by
  obtain ⟨hcase, hw⟩ := h
  have hw2 := ((Wrote.refl (fun b => inV cs b) w).later hb).trans hw
  refine ⟨?_, h1.trans hw2.os, h2.trans hw2.tape, h3.trans hw2.output, by rw [hs]; exact hw2.size, fun k hk hn => (hV k (by omega)).trans (hw2.block k hk hn)⟩
  rcases hcase with hcase | ⟨ha, pv, vs, he, hr, ho, hin⟩
  · exact .inl hcase
  · refine .inr ⟨ha, pv, vs, he, hr.kept fun b hb' _ => hV b ?_, fun b hb' => Nat.le_trans hb.size (ho b hb'), hin⟩
    rcases hb' with hb' | hb'
    · have := ho b hb'
      omega
    · have := hcs b (hin b hb')
      omega
end Ku

set_option maxRecDepth 100000 in
set_option maxHeartbeats 8000000 in
theorem vfive_any (B : Nat) (ca : Option Addr) (J cc mb nb : Nat) (cs : List Value) (R : List (List Int)) (bo : Option Addr) (q bc : Nat) (L : List Int) (w : World)
    (hJ : R.length = J) (hBw : B ≤ w.heap.size) (hR : RowsZ w B (.slice ca J cc) cs R) (hS : Ku.Small R) (hom : Ku.OM w mb nb (Ku.opn R R.length)) (hmb : ¬ inV cs mb) (hq : L.length = q) (hq2 : 0 < q) (hql : q ≤ 6) (hqc : q ≤ bc) (hbc : bc ≤ 9223372036854775807) (hL : IntsAt w bo L)
    (hin : ∀ p ∈ Ku.pout L q, In64 (Ku.key p)) (hd : ∀ (t t' : Nat) (p p' : Int × Int), t ≠ t' → (Ku.pout L q)[t]? = some p → (Ku.pout L q)[t']? = some p' → Ku.key p ≠ Ku.key p') :
    Calls Try.prog 31 #[.agg #[.slice ca J cc, .map (some mb)], .slice bo q bc] w (Ku.KurP B cs R 1 (.slice bo q bc) (Ku.pout L q) w) := by
  obtain ⟨W1, hW1⟩ : ∃ W1, W1 = w.alloc (.cells #[.slice ca J cc, .map (some mb)] 70) := ⟨_, rfl⟩
  obtain ⟨W, hW⟩ : ∃ W, W = W1.alloc (.cells #[.int .i64 0, .slice none 0 0, .slice none 0 0] 38) := ⟨_, rfl⟩
  have hs1 : W1.heap.size = w.heap.size + 1 := by rw [hW1]; simp
  have hB1 : Below w.heap.size w W1 := by rw [hW1]; exact (Below.refl _ _).alloc (Nat.le_refl _) _
  have hB2 : Below W1.heap.size W1 W := by rw [hW]; exact (Below.refl _ _).alloc (Nat.le_refl _) _
  have hBW : Below w.heap.size w W := hB1.trans (hB2.mono hB1.size)
  have g1 : W.heap[w.heap.size]? = some (.cells #[.slice ca J cc, .map (some mb)] 70 (0, 0)) := by
    rw [hB2.block _ (by omega), hW1]
    exact heap_alloc_new w _
  have g2 : W.heap[w.heap.size + 1]? = some (.cells #[.int .i64 0, .slice none 0 0, .slice none 0 0] 38 (0, 0)) := by rw [hW, ← hs1]; exact heap_alloc_new W1 _
  have hWs : w.heap.size + 1 < W.heap.size := lt_of_block g2
  have HW : Hid (W = (w.alloc (.cells #[.slice ca J cc, .map (some mb)] 70)).alloc (.cells #[.int .i64 0, .slice none 0 0, .slice none 0 0] 38)) := by rw [hW, hW1]; exact Nu.hid rfl
  have HLOW : Hid (∀ b, inV cs b → b < w.heap.size) := fun b hb => (hR.within (.inr hb)).2
  have HG1 := Nu.hid g1
  have HG2 := Nu.hid g2
  have HBW := Nu.hid hBW
  have HL := Nu.hid hL
  have HQ := Nu.hid hq
  have HKU : Hid (∀ (U : World) (pa : Option Addr) (pc : Nat), Below W.heap.size W U → EdgesAt U pa (Ku.pout L q) → (∀ x, pa = some x → W.heap.size ≤ x.block) → Calls Try.prog 52 #[.agg #[.slice ca J cc, .map (some mb)], .int .i64 1, .slice bo q bc, .slice pa (Ku.pout L q).length pc] U (Ku.KurP B cs R 1 (.slice bo q bc) (Ku.pout L q) U)) := fun U pa pc hU hpa hpb => by
    have hbl : Below w.heap.size w U := hBW.trans (hU.mono hBW.size)
    refine vkura_any B ca J cc mb nb cs R 1 bo q bc pa _ pc (Ku.pout L q) U hJ (Nat.le_trans hBw hbl.size) (hR.later hbl) hS (hom.later hbl) hmb rfl ?_ hpa (fun x hx hi => ?_) hin hd
    · have h1 := Ku.pout_length L q
      rw [hq] at h1
      have h2 : q * q ≤ 6 * 6 := Nat.mul_le_mul hql hql
      omega
    · have h1 := hpb x hx
      have h2 := HLOW.out _ hi
      omega
  clear hW hW1 hs1 hB1 hB2 hBW g1 g2 hR hS hom hmb hq hL hin hd hJ
  go_enter Try.func31, Try.ntmps31
  go_wp2_with fail
  rw [← HW.out]
  go_loopw [6, 13] (fun pv cv wr => ∃ (i : Nat), i ≤ q ∧ cv = .int .i64 (i : Int) ∧ OwnP wr W.heap.size pv (Ku.pout L i) ∧ Below W.heap.size W wr) (fun _ cv _ => q - (intOf cv).toNat)
  case atStart => exact ⟨0, Nat.zero_le _, rfl, OwnP.nil _ _, Below.refl _ _⟩
  case round =>
    obtain ⟨i, hi, rfl, hown, hb⟩ := hrel
    obtain ⟨U, rfl⟩ : ∃ U, U = wr := ⟨wr, rfl⟩
    have HO := Nu.hid hown
    have HB := Nu.hid hb
    have hwi : IntKind.i64.wrap ((i : Int) + 1) = (i : Int) + 1 := by rw [IntKind.wrap_i64]; omega
    obtain ⟨pa, pc, hpe, hpat, hpb⟩ := hown.form
    have HPA := Nu.hid hpat
    have HPB := Nu.hid hpb
    by_cases hlt : i < q
    · have hlti : (i : Int) < (q : Int) := by omega
      have hi0 : (0 : Int) ≤ (i : Int) := by omega
      obtain ⟨x, hx⟩ : ∃ x, L[i]? = some x := ⟨_, List.getElem?_eq_getElem (by rw [HQ.out]; exact hlt)⟩
      obtain ⟨b, o, rfl, e0⟩ := (HL.out.later (HBW.out.trans (hb.mono HBW.out.size))) i x hx
      obtain ⟨i1, hi1⟩ : ∃ i1, i1 = i + 1 := ⟨_, rfl⟩
      obtain ⟨m, hm⟩ : ∃ m, m = q - i1 := ⟨_, rfl⟩
      have hwa : IntKind.i64.wrap ((i : Int) + 1) = (i1 : Int) := by rw [IntKind.wrap_i64]; omega
      have k1 : (0 : Int) ≤ (i1 : Int) := by omega
      have k2 : (i1 : Int) ≤ (q : Int) := by omega
      have k3 : (q : Int) ≤ (bc : Int) := by omega
      have k4 : (i1 : Int) ≤ (bc : Int) := by omega
      have HGX := Nu.hid (Ku.gI_at hx)
      have HX := Nu.hid hx
      clear hown hpe hpat hpb hb hx hwi
      by_cases hcap : bc = i1
      · go_wp2_with fail
        generalize hmm : q - (i + 1) = mm
        have HMM := Nu.hid hmm
        have hmb : mm ≤ 6 := by omega
        go_loopw [6, 23] (fun pv cv wr => ∃ (j : Nat), j ≤ mm ∧ cv = .int .i64 (j : Int) ∧ OwnP wr W.heap.size pv (Ku.pout L i ++ Ku.pin L i j) ∧ Below W.heap.size W wr) (fun _ cv _ => mm - (intOf cv).toNat)
        case atStart => exact ⟨0, Nat.zero_le _, rfl, by rw [show Ku.pin L i 0 = [] from rfl, List.append_nil]; exact HO.out, HB.out⟩
        case round =>
          obtain ⟨j, hj, rfl, hown, hb⟩ := hrel
          obtain ⟨V, rfl⟩ : ∃ V, V = wr := ⟨wr, rfl⟩
          have HO2 := Nu.hid hown
          have HB2 := Nu.hid hb
          have hs2 := hb.size
          have hwj : IntKind.i64.wrap ((j : Int) + 1) = (j : Int) + 1 := by rw [IntKind.wrap_i64]; omega
          by_cases hjl : j < mm
          · exfalso
            omega
          · have hdj : ¬ ((j : Int) < (mm : Int)) := by omega
            obtain rfl : j = mm := by omega
            have HN : Hid (Ku.pout L (i + 1) = Ku.pout L i ++ Ku.pin L i j) := by
              show _ = _
              rw [show Ku.pout L (i + 1) = Ku.pout L i ++ Ku.pin L i (L.length - (i + 1)) from rfl, HQ.out, HMM.out]
            have hwi : IntKind.i64.wrap ((i : Int) + 1) = (i : Int) + 1 := by rw [IntKind.wrap_i64]; omega
            clear hown hb hmm
            go_wp2
            go_roundw
            case rel => exact ⟨i + 1, by omega, by go_num, by rw [HN.out]; exact HO2.out, HB2.out⟩
            case measure => simp [intOf]; omega
      · go_wp2_with fail
        generalize hmm : q - (i + 1) = mm
        have HMM := Nu.hid hmm
        have hmb : mm ≤ 6 := by omega
        go_loopw [6, 23] (fun pv cv wr => ∃ (j : Nat), j ≤ mm ∧ cv = .int .i64 (j : Int) ∧ OwnP wr W.heap.size pv (Ku.pout L i ++ Ku.pin L i j) ∧ Below W.heap.size W wr) (fun _ cv _ => mm - (intOf cv).toNat)
        case atStart => exact ⟨0, Nat.zero_le _, rfl, by rw [show Ku.pin L i 0 = [] from rfl, List.append_nil]; exact HO.out, HB.out⟩
        case round =>
          obtain ⟨j, hj, rfl, hown, hb⟩ := hrel
          obtain ⟨V, rfl⟩ : ∃ V, V = wr := ⟨wr, rfl⟩
          have HO2 := Nu.hid hown
          have HB2 := Nu.hid hb
          have hs2 := hb.size
          have hwj : IntKind.i64.wrap ((j : Int) + 1) = (j : Int) + 1 := by rw [IntKind.wrap_i64]; omega
          by_cases hjl : j < mm
          · have hjli : (j : Int) < (mm : Int) := by omega
            have hj0 : (0 : Int) ≤ (j : Int) := by omega
            obtain ⟨y, hy⟩ : ∃ y, L[i + 1 + j]? = some y := ⟨_, List.getElem?_eq_getElem (by rw [HQ.out]; omega)⟩
            obtain ⟨b', o', ee, e1⟩ := (HL.out.later (HBW.out.trans (hb.mono HBW.out.size))) _ y hy
            cases ee
            have e2 : V.cell? ⟨b, o + (i + 1) + j, none⟩ = some (.int .i64 y) := by rw [Nat.add_assoc o (i + 1) j]; exact e1
            have HNX : Hid (Ku.pout L i ++ Ku.pin L i (j + 1) = Ku.pout L i ++ Ku.pin L i j ++ [(x, y)]) := by
              show _ = _
              rw [List.append_assoc]
              congr 1
              show Ku.pin L i j ++ [(Ku.gI L i, Ku.gI L (i + 1 + j))] = _
              rw [HGX.out, Ku.gI_at hy]
            have hll : (Ku.pout L i ++ Ku.pin L i j).length ≤ 8796093022000 := by
              rw [List.length_append, Ku.pin_length]
              have h1 := Ku.pout_length L i
              rw [HQ.out] at h1
              have h2 : i * q ≤ 6 * 6 := Nat.mul_le_mul (by omega) hql
              omega
            clear hown hb hy e1
            go_wp2_with (at_builtin; refine wpList_pushP rfl _ _ rfl _ W.heap.size _ _ x y HO2.out hs2 hll rfl rfl ?_; refine Hid.out ?_)
            refine Nu.hid ?_
            intro v' w3 hrow3 hb3
            have HR3 := Nu.hid hrow3
            have HB3 := Nu.hid (HB2.out.trans hb3)
            clear hrow3 hb3
            go_wp2
            go_roundw
            case rel => exact ⟨j + 1, by omega, by go_num, by rw [HNX.out]; first | exact HR3.out | (rw [List.append_assoc]; exact HR3.out), HB3.out⟩
            case measure => simp [intOf]; omega
          · have hdj : ¬ ((j : Int) < (mm : Int)) := by omega
            obtain rfl : j = mm := by omega
            have HN : Hid (Ku.pout L (i + 1) = Ku.pout L i ++ Ku.pin L i j) := by
              show _ = _
              rw [show Ku.pout L (i + 1) = Ku.pout L i ++ Ku.pin L i (L.length - (i + 1)) from rfl, HQ.out, HMM.out]
            have hwi : IntKind.i64.wrap ((i : Int) + 1) = (i : Int) + 1 := by rw [IntKind.wrap_i64]; omega
            clear hown hb hmm
            go_wp2
            go_roundw
            case rel => exact ⟨i + 1, by omega, by go_num, by rw [HN.out]; exact HO2.out, HB2.out⟩
            case measure => simp [intOf]; omega
    · have hd : ¬ ((i : Int) < (q : Int)) := by omega
      obtain rfl : i = q := by omega
      have HKU2 := Nu.hid (HKU.out U pa pc hb hpat (fun x hx => (hpb x hx).1))
      obtain ⟨c0, c1, -⟩ := pair_cells ((hb.block _ (by omega)).trans HG1.out)
      subst hpe
      clear hown hpat hpb hb
      go_wp2_with (go_at_call 52; refine HKU2.out.mono ?_; refine Hid.out ?_)
      refine Nu.hid ?_
      intro e w3 hkp
      have hsz3 : W.heap.size ≤ w3.heap.size := Nat.le_trans HB.out.size hkp.2.size
      have hbx : w3.heap[w.heap.size + 1]? = some (.cells #[.int .i64 0, .slice none 0 0, .slice none 0 0] 38 (0, 0)) := (hkp.2.block _ (by have := HB.out.size; omega) (fun h => by have := HLOW.out _ h; omega)).trans ((HB.out.block _ (by omega)).trans HG2.out)
      obtain ⟨z0, z1, z2, zf⟩ := cells3_15 hbx
      have hf0 := zf 0
      have hf1 := zf 1
      have hf2 := zf 2
      have hUs := HB.out.size
      have HFAR : Hid (∀ x y z : Value, Ku.KurP B cs R 1 (.slice bo i bc) (Ku.pout L i) w e (((w3.setCell ⟨w.heap.size + 1, 0, none⟩ x).setCell ⟨w.heap.size + 1, 1, none⟩ y).setCell ⟨w.heap.size + 1, 2, none⟩ z)) := fun x y z => hkp.far (HBW.out.trans (HB.out.mono HBW.out.size)) (c := w.heap.size + 1) ⟨by omega, by omega⟩ HLOW.out (fun b hb => by rw [heap_setCell_other _ ⟨w.heap.size + 1, 2, none⟩ b _ hb, heap_setCell_other _ ⟨w.heap.size + 1, 1, none⟩ b _ hb, heap_setCell_other _ ⟨w.heap.size + 1, 0, none⟩ b _ hb]) (by simp) rfl rfl rfl
      obtain ⟨v1, s1, s2, s3, u1, u2, u3, r, rfl⟩ := hkp.shape
      clear hkp hbx zf c0 c1
      go_wp2
      refine bodyPost_ret (results_kura2 rfl rfl _ _ (w.heap.size + 1) _ _ _ _ rfl rfl (set_three15 z0 z1 z2 _ _ _).1 (set_three15 z0 z1 z2 _ _ _).2.1 (set_three15 z0 z1 z2 _ _ _).2.2) rfl ?_
      exact HFAR.out _ _ _
end Go.Proofs.Ytdhaaodalchpkaa
