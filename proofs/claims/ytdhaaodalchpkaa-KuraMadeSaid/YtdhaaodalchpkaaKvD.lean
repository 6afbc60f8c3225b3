/-
  Layer 15, the program: chains and Chains.
-/
import Derived.Test.YtdhaaodalchpkaaKvB
import Derived.Test.YtdhaaodalchpkaaMgU
import Derived.Test.YtdhaaodalchpkaaKuN
import Derived.Test.YtdhaaodalchpkaaMgC
import Derived.Deep.RegionHeld3
namespace Go.Proofs.Ytdhaaodalchpkaa
open Go.RowKit Go.Sort

/-- 'append(v, x)', x a list of its own, in any world in which x lies in a cell of block c. -/
theorem wp_row_push {U : World} {o : Oper} {a : Act} {K : Act → World → Prop} {Q : Exit → Act → World → Prop} (s x : Operand) (ho : o.op = .call { callee := .builtin .append, args := #[s, x], argTypes := #[26, 26] })
    (B : Nat) (v : Value) (vs : List Value) (ls : List (List Int)) (xa : Option Addr) (xn xc : Nat) (l : List Int) (hR : RowsZ U B v vs ls) (hB : B ≤ U.heap.size) (hs : a.eval s = v) (c : Nat) (hx : a.eval x = .slice (some ⟨c, 0, none⟩) 1 1) (hc : U.cell? ⟨c, 0, none⟩ = some (.slice xa xn xc))
    (hO : OwnZ U B (.slice xa xn xc) l) (hdis : ∀ b, (Value.slice xa xn xc).ownBlock = some b → ¬ (v.ownBlock = some b ∨ inV vs b)) (hl : ls.length ≤ 4194304)
    (h : ∀ v' w', RowsZ w' B v' (vs ++ [.slice xa xn xc]) (ls ++ [l]) → U.grownBy w' v.ownBlock → (v'.ownBlock = v.ownBlock ∨ v'.ownBlock = some U.heap.size) → K (a.put o.dst v') w') : o.wp Try.prog a U K Q := by
  refine wp_rows_more s x ho B v vs [.slice xa xn xc] ls [l] hR hB hs (some ⟨c, 0, none⟩) 1 1 rfl hx (fun e => by cases e) rfl (fun j u hj => ?_) (fun u hu => ?_) (fun u y k hy hk => ?_) (fun u u' y y' b hne hy hy' => ?_) (fun b hb' => ?_) (by omega) h
  · obtain rfl : j = 0 := by
      have := (List.getElem?_eq_some_iff.1 hj).1
      simp at this
      exact this
    cases hj
    exact ⟨_, rfl, hc⟩
  · cases List.mem_singleton.1 hu
    rfl
  · obtain rfl : u = 0 := by
      have := (List.getElem?_eq_some_iff.1 hy).1
      simp at this
      exact this
    cases hy
    cases hk
    exact hO
  · have h1 := (List.getElem?_eq_some_iff.1 hy).1
    have h2 := (List.getElem?_eq_some_iff.1 hy').1
    simp at h1 h2
    omega
  · obtain ⟨u, y, hy, hyb⟩ := hb'
    obtain rfl : u = 0 := by
      have := (List.getElem?_eq_some_iff.1 hy).1
      simp at this
      exact this
    cases hy
    exact hdis b hyb

namespace Ku
/-- The chains so far in a list of lists, what is gone in block g. -/
structure ChAt (es : List (Int × Int)) {n : Int} (hv : Si.Val n es) (g : Nat) (W : World) (i : Nat) (v : Value) (us : List Value) (gf : Nat → Bool) (U : World) : Prop where
  rws : RowsZ U W.heap.size v us (rows es hv i)
  gone : BoolsIn U g es.length gf
  iff : ∀ e, gf e = true ↔ ∃ l ∈ chs es hv i, By l e
  wrote : Wrote (fun k => k = g ∨ W.heap.size ≤ k) W U

/-- What chains answers. -/
def ChnP (es : List (Int × Int)) {n : Int} (hv : Si.Val n es) (w : World) (e : Ending) (w' : World) : Prop := ∃ v us, e = .returned v ∧ RowsZ w' w.heap.size v us (rows es hv es.length) ∧ Below w.heap.size w w'
theorem chs_yes {es : List (Int × Int)} {n : Int} {hv : Si.Val n es} {k : Nat} (h : First es hv k) : chs es hv (k + 1) = chs es hv k ++ [ch es hv k] := by
  simp only [chs]
  rw [if_pos h]
theorem chs_no {es : List (Int × Int)} {n : Int} {hv : Si.Val n es} {k : Nat} (h : ¬ First es hv k) : chs es hv (k + 1) = chs es hv k := by
  simp only [chs]
  rw [if_neg h]
section
variable {es : List (Int × Int)} {n : Int} {hv : Si.Val n es} {g i : Nat} {W U : World} {v : Value} {us : List Value} {gf : Nat → Bool}
theorem ChAt.first (h : ChAt es hv g W i v us gf U) (hi : i < es.length) : gf i = true ↔ ¬ First es hv i := (h.iff i).trans (seen_iff hi)
theorem ChAt.skip (h : ChAt es hv g W i v us gf U) (hf : ¬ First es hv i) : ChAt es hv g W (i + 1) v us gf U := ⟨by rw [rows_no hf]; exact h.rws, h.gone, by rw [chs_no hf]; exact h.iff, h.wrote⟩
theorem wrote_grown {W X w4 : World} {g : Nat} {r : Option Nat} (hg : X.grownBy w4 r) (hX : Wrote (fun k => k = g ∨ W.heap.size ≤ k) W X) (hr : ∀ k, r = some k → W.heap.size ≤ k) : Wrote (fun k => k = g ∨ W.heap.size ≤ k) W w4 :=
  ⟨hg.os.trans hX.os, hg.tape.trans hX.tape, hg.output.trans hX.output, Nat.le_trans hX.size hg.size, fun k hk hne => (hg.block k (Nat.lt_of_lt_of_le hk hX.size) (fun e => hne (.inr (hr k e.symm)))).trans (hX.block k hk hne)⟩
/-- Behind begin, along and written. -/
theorem ChAt.mid {U1 U2 U3 V : World} {b : Nat} {gf' : Nat → Bool} {x : Value} (h : ChAt es hv g W i v us gf U) (hg : g < W.heap.size) (hf : First es hv i) (hV : Below U.heap.size U V) (h1 : Below V.heap.size V U1) (hb : BegOk es hv i b) (h2 : Wrote (fun k => k = g) U1 U2) (hgo : BoolsIn U2 g es.length gf') (hiff : ∀ e, gf' e = true ↔ (gf e = true ∨ By (all (gs es hv).toSys b) e)) (h3 : Below U1.heap.size U2 U3) (hO : OwnZ U3 U1.heap.size x (writtenI (ZL (vs (gs es hv) (all (gs es hv).toSys b))))) :
    RowsZ U3 W.heap.size v us (rows es hv i) ∧ OwnZ U3 W.heap.size x (ZL (vs (gs es hv) (ch es hv i))) ∧ (∀ b, x.ownBlock = some b → ¬ (v.ownBlock = some b ∨ inV us b)) ∧ BoolsIn U3 g es.length gf' ∧ (∀ e, gf' e = true ↔ ∃ l ∈ chs es hv (i + 1), By l e) ∧ Wrote (fun k => k = g ∨ W.heap.size ≤ k) W U3 ∧ W.heap.size ≤ U3.heap.size := by
  obtain ⟨b1, b2, b3⟩ := hb
  obtain ⟨e1, e2⟩ := along_is hf b1 b2 b3
  have s0 := h.wrote.size
  have sV := hV.size
  have s1 := h1.size
  have s2 := h2.size
  have s3 := h3.size
  have keep : ∀ k, k ≠ g → k < U.heap.size → U3.heap[k]? = U.heap[k]? := fun k hk hl => by
    rw [h3.block k (by omega), h2.block k (by omega) hk, h1.block k (by omega), hV.block k hl]
  refine ⟨h.rws.kept fun k hk hl => keep k (by have := (h.rws.within hk).1; omega) hl, ?_, fun k hk hc => ?_, hgo.same (h3.block g (by omega)), fun e => ?_, ?_, by omega⟩
  · rw [written_ZL, ← e1] at hO
    exact hO.lower (by omega)
  · have a1 := (h.rws.within hc).2
    have a2 := (World.ownsRow.lt hO k hk).1
    omega
  · rw [hiff e, h.iff e, chs_yes hf, ← e2 e]
    constructor
    · rintro (⟨l, hl, hb⟩ | hb)
      · exact ⟨l, List.mem_append_left _ hl, hb⟩
      · exact ⟨_, List.mem_append_right _ (List.mem_singleton.2 rfl), hb⟩
    · rintro ⟨l, hl, hb⟩
      rcases List.mem_append.1 hl with hl | hl
      · exact .inl ⟨l, hl, hb⟩
      · cases List.mem_singleton.1 hl
        exact .inr hb
  · refine h.wrote.trans ⟨?_, ?_, ?_, by omega, fun k hk hne => keep k (fun e => hne (.inl e)) hk⟩
    · rw [h3.os, h2.os, h1.os, hV.os]
    · rw [h3.tape, h2.tape, h1.tape, hV.tape]
    · rw [h3.output, h2.output, h1.output, hV.output]
end
end Ku

set_option maxRecDepth 100000 in
set_option maxHeartbeats 8000000 in
theorem vchains_any (p n : Nat) (es : List (Int × Int)) (w : World) (hA : IsAdj w (.pointer (some ⟨p, 0, none⟩)) n es) (hv : Si.Val (n : Int) es) :
    Calls Try.prog 25 #[.pointer (some ⟨p, 0, none⟩)] w (Ku.ChnP es hv w) := by
  have HM : Hid (∀ U : World, Below w.heap.size w U → Calls Try.prog 42 #[.pointer (some ⟨p, 0, none⟩)] U fun e w' => e = .returned (.int .i64 (es.length : Int)) ∧ w' = U) := fun U hU => aM_any _ n es U (hA.later hU)
  have HA := Nu.hid hA
  have hfew := hv.few
  obtain ⟨i0, hi0, hz0, hz1, hz2⟩ := info_parts Try.infoBool
  have i1 : (0 : Int) ≤ (es.length : Int) := by omega
  have i2 : (es.length : Int) ≤ 140737488355328 := by omega
  have HM0 := Nu.hid (HM.out w (Below.refl _ _))
  have hmk : ∀ W, (Instr.makeSlice 46 (.int .i64 (es.length : Int)) (.int .i64 (es.length : Int))).run Try.prog W = .ok (.slice (some ⟨W.heap.size, 0, none⟩) es.length es.length) (W.alloc (.cells (madeCells #[.bool false] es.length) 4)) := fun W => by
    have := run_make (P := Try.prog) W 46 4 i0 (.bool false) Try.underlying46 hi0 hz0 .i64 .i64 (es.length : Int) (es.length : Int) (by omega) (Int.le_refl _) (by rw [hz2]; omega) (by omega)
    rw [this, hz1]
    simp [Value.cells]
  obtain ⟨W1, hW1⟩ : ∃ W1, W1 = w.alloc (.cells (madeCells #[.bool false] es.length) 4) := ⟨_, rfl⟩
  obtain ⟨W, hW⟩ : ∃ W, W = W1.alloc (.cells #[.pointer (some ⟨p, 0, none⟩), .slice (some ⟨w.heap.size, 0, none⟩) es.length es.length] 88) := ⟨_, rfl⟩
  have hsz : W1.heap.size = w.heap.size + 1 := by rw [hW1]; simp
  have hB1 : Below w.heap.size w W1 := by rw [hW1]; exact (Below.refl _ _).alloc (Nat.le_refl _) _
  have hB2 : Below W1.heap.size W1 W := by rw [hW]; exact (Below.refl _ _).alloc (Nat.le_refl _) _
  have hB0 : Below w.heap.size w W := hB1.trans (hB2.mono hB1.size)
  have g1 : W.heap[w.heap.size + 1]? = some (.cells #[.pointer (some ⟨p, 0, none⟩), .slice (some ⟨w.heap.size, 0, none⟩) es.length es.length] 88 (0, 0)) := by rw [hW, ← hsz]; exact heap_alloc_new W1 _
  have HG0 : Hid (BoolsIn W w.heap.size es.length (fun _ => false)) := by
    have : BoolsIn W1 w.heap.size es.length (fun _ => false) := by rw [hW1]; exact made_bools rfl _
    exact this.later hB2
  have hws : w.heap.size + 1 < W.heap.size := lt_of_block g1
  have HW : Hid (W = (w.alloc (.cells (madeCells #[.bool false] es.length) 4)).alloc (.cells #[.pointer (some ⟨p, 0, none⟩), .slice (some ⟨w.heap.size, 0, none⟩) es.length es.length] 88)) := by rw [hW, hW1]; exact Nu.hid rfl
  have HMW := Nu.hid (HM.out W hB0)
  have HB0 := Nu.hid hB0
  have HLATE : Hid (∀ U : World, Wrote (fun k => k = w.heap.size ∨ W.heap.size ≤ k) W U → Below w.heap.size w U) := fun U hU => hB0.trans (hU.below (by omega) (fun k hk => by omega))
  have HBOX : Hid (∀ U : World, Wrote (fun k => k = w.heap.size ∨ W.heap.size ≤ k) W U → U.heap[w.heap.size + 1]? = some (.cells #[.pointer (some ⟨p, 0, none⟩), .slice (some ⟨w.heap.size, 0, none⟩) es.length es.length] 88 (0, 0))) := fun U hU => (hU.block _ hws (by omega)).trans g1
  clear hA hW1 hW hsz hB1 hB2 hB0 g1
  go_enter Try.func25, Try.ntmps25
  go_wp2_with (go_at_call 42; refine HM0.out.mono ?_; rintro e w1 ⟨rfl, hw1⟩; obtain rfl := hw1.symm; refine Hid.out ?_)
  refine Nu.hid ?_
  go_wp2_with (go_at_call 42; rw [← HW.out]; refine HMW.out.mono ?_; rintro e w1 ⟨rfl, hw1⟩; obtain rfl := hw1.symm; refine Hid.out ?_)
  refine Nu.hid ?_
  clear hmk
  go_wp2
  go_loopw [4, 13] (fun v cv wr => ∃ (i : Nat) (us : List Value) (gf : Nat → Bool), i ≤ es.length ∧ cv = .int .i64 (i : Int) ∧ Ku.ChAt es hv w.heap.size W i v us gf wr) (fun _ cv _ => es.length - (intOf cv).toNat)
  case atStart => exact ⟨0, [], fun _ => false, Nat.zero_le _, rfl, RowsZ.nil _ _, HG0.out, fun e => by simp [Ku.chs], Wrote.refl _ _⟩
  case round =>
    obtain ⟨i, us, gf, hi, rfl, hch⟩ := hrel
    obtain ⟨U, rfl⟩ : ∃ U, U = wr := ⟨wr, rfl⟩
    have HCH := Nu.hid hch
    obtain ⟨va, vc, hve⟩ := row_shape hch.rws
    obtain ⟨J, hJ⟩ : ∃ J, (Ku.rows es hv i).length = J := ⟨_, rfl⟩
    rw [hJ] at hve
    subst hve
    have HJ := Nu.hid hJ
    have hJi : J ≤ i := by rw [← hJ, Ku.rows_length]; exact Ku.chs_length i
    have hwi : IntKind.i64.wrap ((i : Int) + 1) = (i : Int) + 1 := by rw [IntKind.wrap_i64]; omega
    have HLU := Nu.hid (HLATE.out U hch.wrote)
    by_cases hlt : i < es.length
    · have hlti : (i : Int) < (es.length : Int) := by omega
      have hi0' : (0 : Int) ≤ (i : Int) := by omega
      obtain ⟨c0, c1, -⟩ := pair_cells (HBOX.out U hch.wrote)
      have cg := hch.gone.cell hlt
      have hfst := hch.first hlt
      cases hb : gf i with
      | true =>
        rw [hb] at cg hfst
        have HN := Nu.hid (hch.skip (hfst.1 rfl))
        clear hch hJ hb hfst
        go_wp2
        go_roundw
        case rel => exact ⟨i + 1, us, gf, by omega, by go_num, HN.out⟩
        case measure => simp [intOf]; omega
      | false =>
        rw [hb] at cg hfst
        have hf : Ku.First es hv i := Classical.byContradiction fun h => by have := hfst.2 h; cases this
        have HCN : Hid (∀ e', Ku.By (Ku.ch es hv i) e' → gf e' = false) := fun e' he' => by
          cases hc : gf e' with
          | false => rfl
          | true => exact absurd ((hch.iff e').1 hc) (Ku.first_free hlt hf he')
        have hwu := hch.wrote
        have hszU := hwu.size
        have HS : Hid (∀ V : World, Wrote (fun k => k = w.heap.size ∨ W.heap.size ≤ k) W V → V.cell? ⟨w.heap.size + 1, 0, none⟩ = some (.pointer (some ⟨p, 0, none⟩)) ∧ V.cell? ⟨w.heap.size + 1, 1, none⟩ = some (.slice (some ⟨w.heap.size, 0, none⟩) es.length es.length)) := fun V hV => by
          obtain ⟨a1, a2, -⟩ := pair_cells (HBOX.out V hV)
          exact ⟨a1, a2⟩
        have HBEG : Hid (∀ V : World, Below U.heap.size U V → Calls Try.prog 45 #[.agg #[.pointer (some ⟨p, 0, none⟩), .slice (some ⟨w.heap.size, 0, none⟩) es.length es.length], .int .i64 (i : Int)] V (Ku.BegP es hv i V)) := fun V hV => vbegin_any p n es _ _ _ i V (HA.out.later (HLU.out.trans (hV.mono HLU.out.size))) hv hlt
        have HALO : Hid (∀ (V U1 : World) (b : Nat), Below U.heap.size U V → Below V.heap.size V U1 → Ku.BegOk es hv i b → Calls Try.prog 44 #[.agg #[.pointer (some ⟨p, 0, none⟩), .slice (some ⟨w.heap.size, 0, none⟩) es.length es.length], .int .i64 (b : Int)] U1 (Ku.AloP es hv b w.heap.size gf U1)) := fun V U1 b hV h1 hb => by
          have hbl : Below U.heap.size U U1 := hV.trans (h1.mono hV.size)
          refine valong_any p n es w.heap.size b gf w U1 HA.out hv (HLU.out.trans (hbl.mono HLU.out.size)) (Nat.le_refl _) (HCH.out.gone.later hbl) hb.1 fun x hx => ?_
          exact HCN.out _ (((Ku.along_is hf hb.1 hb.2.1 hb.2.2).2 _).2 ⟨x, hx, rfl⟩)
        have hbr : Below U.heap.size U U.drew := (Below.refl _ _).drew
        have hTr : Wrote (fun k => k = w.heap.size ∨ W.heap.size ≤ k) W U.drew := hwu.drew
        have HLEN : Hid (∀ b, Ku.BegOk es hv i b → 2 ≤ (Ku.ZL (Ku.vs (Ku.gs es hv) (Ku.all (Ku.gs es hv).toSys b))).length ∧ (Ku.ZL (Ku.vs (Ku.gs es hv) (Ku.all (Ku.gs es hv).toSys b))).length ≤ 17592186044000) := fun b hb => by
          obtain ⟨-, nd, lt, -, -⟩ := Ku.all_spec (S := (Ku.gs es hv).toSys) hb.1
          have h1 := Ku.all_len (S := (Ku.gs es hv).toSys) hb.1
          have h2 := Ku.few_below nd lt
          have h3 : (Ku.gs es hv).toSys.M = 2 * es.length := rfl
          rw [Ku.ZL_length, Ku.vs_length (fun e => by rw [e] at h1; simp at h1)]
          omega
        clear hb hfst hch hJ
        go_wp2_with fail
        go_region_held3 (fun V => V.cell? ⟨w.heap.size + 1, 0, none⟩ = some (.pointer (some ⟨p, 0, none⟩)) ∧ V.cell? ⟨w.heap.size + 1, 1, none⟩ = some (.slice (some ⟨w.heap.size, 0, none⟩) es.length es.length))
          (exact HS.out _ (by first | assumption | exact hTr | (refine Wrote.drew ?_; assumption) | (refine Wrote.alloc ?_ _; assumption) | (refine Wrote.drew ?_; refine Wrote.alloc ?_ _; assumption)))
          (first
            | (go_at_call 45; refine (HBEG.out _ hbr).mono ?_; rintro e u1 ⟨b, rfl, hbo, hb1⟩; have hT1 : Wrote (fun k => k = w.heap.size ∨ W.heap.size ≤ k) W u1 := hTr.later hb1)
            | (go_at_call 44; refine (HALO.out _ _ _ hbr hb1 hbo).mono ?_; rintro e u2 ⟨v2, gf2, rfl, ho2, hg2, hi2, hw2⟩; have hT2 : Wrote (fun k => k = w.heap.size ∨ W.heap.size ≤ k) W u2 := hT1.trans (hw2.mono fun k _ hk => .inl hk); obtain ⟨xa, xc, hve, -, -⟩ := ho2.form; obtain ⟨Lc, hLc⟩ : ∃ Lc, (Ku.ZL (Ku.vs (Ku.gs es hv) (Ku.all (Ku.gs es hv).toSys b))).length = Lc := ⟨_, rfl⟩; rw [hLc] at hve; subst hve)
            | (go_at_call 43; refine (vwritten_any u1.heap.size xa Lc xc _ u2 hLc ho2 hw2.size (by have := (HLEN.out b hbo).1; omega) (by have := (HLEN.out b hbo).2; omega)).mono ?_; rintro e u3 ⟨rfl, ho3, hb3⟩; obtain ⟨m1, m2, m3, m4, m5, m6, m7⟩ := HCH.out.mid (by omega) hf hbr hb1 hbo hw2 hg2 hi2 hb3 ho3)
            | (rw [if_pos (by rfl)]; refine wp_row_push _ _ (by rfl) W.heap.size (.slice va J vc) us (Ku.rows es hv i) xa Lc xc _ (m1.later (by first | exact (Below.refl _ _).alloc (Nat.le_refl _) _ | exact ((Below.refl _ _).alloc (Nat.le_refl _) _).drew)) (by simp; omega) (by rfl) u3.heap.size (by rfl) (by first | exact (cell_one_new _ _ _ 0 _ rfl) | exact cell_one_new _ _ _) (m2.later (by first | exact (Below.refl _ _).alloc (Nat.le_refl _) _ | exact ((Below.refl _ _).alloc (Nat.le_refl _) _).drew)) m3 (by rw [HJ.out]; omega) ?_; intro v4 w4 hR4 hg4 _; have hT4 : Wrote (fun k => k = w.heap.size ∨ W.heap.size ≤ k) W w4 := Ku.wrote_grown hg4 (by first | exact m6.alloc _ | exact (m6.alloc _).drew) (fun k hk => (World.ownsRow.lt m1.outer k hk).1)))
        have HNEW : Hid (Ku.ChAt es hv w.heap.size W (i + 1) v4 (us ++ [.slice xa Lc xc]) gf2 w4) := ⟨by rw [Ku.rows_yes hf]; exact hR4, m4.same ((hg4.block _ (by simp; omega) (fun e => by have := (World.ownsRow.lt m1.outer _ e.symm).1; omega)).trans (heap_alloc_old _ _ (by omega))), m5, hT4⟩
        clear hR4 hg4 hT4 m1 m2 m3 m4 m5 m6 m7 ho3 hb3 hLc ho2 hg2 hi2 hw2 hT2 hT1 hbo hb1 c0 c1 cg hbr hTr
        go_wp2
        go_roundw
        case rel => exact ⟨i + 1, _, _, by omega, by go_num, HNEW.out⟩
        case measure => simp [intOf]; omega
    · have hd : ¬ ((i : Int) < (es.length : Int)) := by omega
      obtain rfl : i = es.length := by omega
      clear hch hJ
      go_wp2
      go_ret
      exact ⟨_, us, rfl, HCH.out.rws.lower (by omega), HLU.out⟩
end Go.Proofs.Ytdhaaodalchpkaa
