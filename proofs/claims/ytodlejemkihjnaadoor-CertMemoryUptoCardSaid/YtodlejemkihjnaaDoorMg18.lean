import Derived.Test.YtodlejemkihjnaaDoorMg17
import Derived.Test.YtodlejemkihjnaaDoorMg04
import Derived.ArgAppend
import Derived.Deep.DeepAppendRoom
/-
  The document's SameLists and Same of what reads otherwise.
-/
namespace Go.Proofs.YtodlejemkihjnaaDoor
open Go.RowKit Go.Sort

set_option maxRecDepth 100000 in
set_option maxHeartbeats 8000000 in
/-- Lists of lists that read otherwise aren't the same. -/
theorem samelists17_no (ao ao' : Option Addr) (c c' n n' : Nat) (ls ls' : List (List Int)) (w : World) (hr : Ce.ListsAt w ao ls) (hr' : Ce.ListsAt w ao' ls') (hn : ls.length = n) (hn' : ls'.length = n') (hl : n ≤ 4611686018427387904) (hll : ∀ l ∈ ls, l.length ≤ 4611686018427387904) (hne : ls ≠ ls') :
    Calls Tryd.prog 13 #[.slice ao n c, .slice ao' n' c'] w fun e w' => e = .returned (.bool false) ∧ Below w.heap.size w w' := by
  by_cases hnn : n = n'
  · subst hnn
    have H := Nu.hid hr
    have H' := Nu.hid hr'
    have HLL := Nu.hid hll
    have HN := Nu.hid hn
    have HN' := Nu.hid hn'
    have HNE := Nu.hid hne
    have j1 : ((n : Int) != (n : Int)) = false := by simp
    clear hll hr hr' hn hn' hne
    go_enter Tryd.func13, Tryd.ntmps13
    go_wp2
    go_loopw [5] (fun cv wr => ∃ k : Nat, k ≤ n ∧ cv = .int .i64 (k : Int) ∧ (∀ j, j < k → ls[j]? = ls'[j]?) ∧ Below w.heap.size w wr) (fun cv _ => n - (intOf cv).toNat)
    case atStart => exact ⟨0, Nat.zero_le _, rfl, fun j h => by omega, Below.refl _ _⟩
    case round =>
      obtain ⟨k, hk, rfl, hsm, hb⟩ := hrel
      have HB := Nu.hid hb
      have HSM := Nu.hid hsm
      clear hsm
      by_cases hlt : k < n
      · have hlti : (k : Int) < (n : Int) := by omega
        have hk0 : (0 : Int) ≤ (k : Int) := by omega
        obtain ⟨l, hlk⟩ : ∃ l, ls[k]? = some l := ⟨_, List.getElem?_eq_getElem (by have := HN.out; omega)⟩
        obtain ⟨l', hlk'⟩ : ∃ l, ls'[k]? = some l := ⟨_, List.getElem?_eq_getElem (by have := HN'.out; omega)⟩
        obtain ⟨g, go, xo, xc, rfl, cx0, hxa0⟩ := H.out k l hlk
        obtain ⟨g', go', yo, yc, rfl, cy0, hya0⟩ := H'.out k l' hlk'
        have cx := (hb.cell (p := ⟨g, go + k, none⟩) (block_lt_of_cell cx0)).trans cx0
        have cy := (hb.cell (p := ⟨g', go' + k, none⟩) (block_lt_of_cell cy0)).trans cy0
        have hxa := hxa0.later hb
        have hya := hya0.later hb
        have hsz : l.length ≤ 4611686018427387904 := HLL.out l (List.mem_of_getElem? hlk)
        obtain ⟨p1, hp1⟩ : ∃ p1, l.length = p1 := ⟨_, rfl⟩
        obtain ⟨p2, hp2⟩ : ∃ p2, l'.length = p2 := ⟨_, rfl⟩
        obtain ⟨t, ht⟩ : ∃ t, decide (l = l') = t := ⟨_, rfl⟩
        have hsame : ∀ W, Below wr.heap.size wr W → Calls Tryd.prog 24 #[.slice xo p1 xc, .slice yo p2 yc] W fun e w' => e = .returned (.bool t) ∧ Below W.heap.size W w' := fun W hbW => by
          rw [← ht]
          exact sameints17_any xo yo xc yc p1 p2 l l' W hp1 hp2 (hxa.later hbW) (hya.later hbW) (by omega)
        have HSAME := Nu.hid hsame
        rw [hp1] at cx
        rw [hp2] at cy
        have hS : ∀ W, Below wr.heap.size wr W → (W.cell? ⟨g, go + k, none⟩ = some (.slice xo p1 xc) ∧ W.cell? ⟨g', go' + k, none⟩ = some (.slice yo p2 yc) ∧ Below wr.heap.size wr W) := fun W hbW =>
          ⟨(hbW.cell (p := ⟨g, go + k, none⟩) (block_lt_of_cell cx)).trans cx, (hbW.cell (p := ⟨g', go' + k, none⟩) (block_lt_of_cell cy)).trans cy, hbW⟩
        have HS := Nu.hid hS
        have hbr : Below wr.heap.size wr wr.drew := (Below.refl _ _).drew
        have HT := Nu.hid ht
        have HLK := Nu.hid hlk
        have HLK' := Nu.hid hlk'
        clear hxa hya hlk hlk' hb hsame hS hp1 hp2 hsz cx0 cy0 hxa0 hya0 ht
        go_wp2_with fail
        go_region_held3 (fun W => W.cell? ⟨g, go + k, none⟩ = some (.slice xo p1 xc) ∧ W.cell? ⟨g', go' + k, none⟩ = some (.slice yo p2 yc) ∧ Below wr.heap.size wr W)
          (exact HS.out _ (by first | assumption | exact hbr))
          ((go_at_call 24; refine (HSAME.out _ (by first | assumption | exact hbr)).mono ?_; rintro e w6 ⟨rfl, hbs⟩; have hbz : Below wr.heap.size wr w6 := Below.trans (by first | assumption | exact hbr) (hbs.mono (Below.size (by first | assumption | exact hbr)))))
        have HBZ := Nu.hid (HB.out.trans (hbz.mono HB.out.size))
        clear hbz hbs HSAME HS hbr
        cases t with
        | false =>
          go_wp2
          go_ret
          exact ⟨rfl, HBZ.out⟩
        | true =>
          go_wp2
          go_roundw
          case rel =>
            refine ⟨k + 1, by omega, by go_num, fun j hj => ?_, HBZ.out⟩
            by_cases hjk : j = k
            · subst hjk; rw [HLK.out, HLK'.out, of_decide_eq_true HT.out]
            · exact HSM.out j (by omega)
          case measure => simp [intOf]; omega
      · exfalso
        apply HNE.out
        refine List.ext_getElem? fun j => ?_
        by_cases hj : j < k
        · exact HSM.out j hj
        · rw [List.getElem?_eq_none (by have := HN.out; omega), List.getElem?_eq_none (by have := HN'.out; omega)]
  · have j1 : ((n : Int) != (n' : Int)) = true := by simp; omega
    clear hr hr' hn hn' hll hne hnn
    go_enter Tryd.func13, Tryd.ntmps13
    go_wp2
    go_ret
    exact ⟨rfl, Below.refl _ _⟩

/-- Two certificates, variables of one's own, that read otherwise. -/
theorem ne_parts {c d : Ce.Cert} (h : c ≠ d) (h1 : c.pl = d.pl) (h2 : c.es = d.es) : c.ar ≠ d.ar := fun h3 => h (by obtain ⟨_, _, _⟩ := c; obtain ⟨_, _, _⟩ := d; dsimp only at h1 h2 h3; rw [h1, h2, h3])

set_option maxRecDepth 100000 in
set_option maxHeartbeats 4000000 in
theorem rsame17_no {w : World} {v v' : Value} {c d : Ce.Cert} {ao eo ao' eo' : Option Addr} {ca ce ca' ce' : Nat} (h : Ce.Sees w v c ao eo ca ce) (h' : Ce.Sees w v' d ao' eo' ca' ce') (hf : Ce.Fits c) (hne : c ≠ d) :
    Calls Tryd.prog 7 #[v, v'] w fun e w' => e = .returned (.bool false) ∧ Below w.heap.size w w' := by
  obtain ⟨pl, ar, es⟩ := c
  obtain ⟨pl', ar', es'⟩ := d
  have HS := Nu.hid (TwoC.start (w := w) (x := .bool pl) (y := .slice ao ar.length ca) (z := .slice eo es.length ce) (x' := .bool pl') (y' := .slice ao' ar'.length ca') (z' := .slice eo' es'.length ce'))
  have HE := Nu.hid h.es
  have HE' := Nu.hid h'.es
  have h1 := hf.ar
  have h2 := hf.es
  dsimp only at HE HE' h1 h2
  rw [h.val, h'.val]
  dsimp only
  by_cases hpl : pl = pl'
  · subst hpl
    by_cases hm : es.length = es'.length
    · have HL : Hid (es = es' → ∀ W, Below w.heap.size w W → Calls Tryd.prog 13 #[.slice ao ar.length ca, .slice ao' ar'.length ca'] W fun e w' => e = .returned (.bool false) ∧ Below W.heap.size W w') := fun he W hW => samelists17_no ao ao' ca ca' ar.length ar'.length ar ar' W (h.ar.later hW) (h'.ar.later hW) rfl rfl h1 hf.row (ne_parts hne rfl he)
      clear h h' hf hne
      obtain ⟨n, hn⟩ : ∃ n, ar.length = n := ⟨_, rfl⟩
      obtain ⟨n', hn'⟩ : ∃ n, ar'.length = n := ⟨_, rfl⟩
      obtain ⟨m, hmm⟩ : ∃ m, es.length = m := ⟨_, rfl⟩
      rw [← hm, hmm, hn'] at HS ⊢
      have HM := Nu.hid hmm
      have HM' := Nu.hid (hm.symm.trans hmm)
      rw [hn] at HS h1 ⊢
      rw [hn, hn'] at HL
      rw [hmm] at h2
      clear hn hn' hmm hm
      have e1 : (pl != pl) = false := by simp
      have e2 : ((m : Int) != (m : Int)) = false := by simp
      obtain ⟨v0, v1, v2, -⟩ := three_cells17 HS.out.b1
      obtain ⟨u0, u1, u2, -⟩ := three_cells17 HS.out.b2
      go_enter Tryd.func7, Tryd.ntmps7
      go_wp2
      go_loopw [5] (fun iv wr => ∃ k : Nat, k ≤ m ∧ iv = .int .i64 (k : Int) ∧ (∀ j, j < k → es[j]? = es'[j]?) ∧ TwoC w (.bool pl) (.slice ao n ca) (.slice eo m ce) (.bool pl) (.slice ao' n' ca') (.slice eo' m ce') wr) (fun iv _ => m - (intOf iv).toNat)
      case atStart => exact ⟨0, Nat.zero_le _, rfl, fun j h => by omega, HS.out⟩
      case round =>
        clear v0 v1 v2 u0 u1 u2
        obtain ⟨k, hk, rfl, hsm, ht⟩ := hrel
        have HSM := Nu.hid hsm
        have HT := Nu.hid ht
        clear ht hsm
        obtain ⟨v0, v1, v2, -⟩ := three_cells17 HT.out.b1
        obtain ⟨u0, u1, u2, -⟩ := three_cells17 HT.out.b2
        by_cases hlt : k < m
        · have hlti : (k : Int) < (m : Int) := by omega
          have k0 : (0 : Int) ≤ (k : Int) := by omega
          obtain ⟨⟨p, q⟩, hp⟩ : ∃ p, es[k]? = some p := ⟨_, List.getElem?_eq_getElem (by have := HM.out; omega)⟩
          obtain ⟨⟨p', q'⟩, hp'⟩ : ∃ p, es'[k]? = some p := ⟨_, List.getElem?_eq_getElem (by have := HM'.out; omega)⟩
          obtain ⟨b, o, rfl, c0, c1⟩ := HE.out.later HT.out.low k (p, q) hp
          obtain ⟨b', o', rfl, d0, d1⟩ := HE'.out.later HT.out.low k (p', q') hp'
          dsimp only at c0 c1 d0 d1
          have HP := Nu.hid hp
          have HP' := Nu.hid hp'
          clear hp hp'
          by_cases e1 : p = p'
          · have t1 : (p != p') = false := by simp [e1]
            have t3 : (p == p') = true := by simp [e1]
            by_cases e2 : q = q'
            · have t2 : (q != q') = false := by simp [e2]
              have t4 : (q == q') = true := by simp [e2]
              have HEQ := Nu.hid (And.intro e1 e2)
              clear e1 e2
              go_wp2_with fail
              go_quiet (fail)
              go_wp2
              go_roundw
              case rel =>
                refine ⟨k + 1, by omega, by go_num, fun j hj => ?_, HT.out.later (below_drewN (Below.refl _ _) _)⟩
                by_cases hjk : j = k
                · subst hjk; rw [HP.out, HP'.out, HEQ.out.1, HEQ.out.2]
                · exact HSM.out j (by omega)
              case measure => simp [intOf]; omega
            · have t2 : (q != q') = true := by simp [e2]
              have t4 : (q == q') = false := by simp [e2]
              clear e1 e2
              go_wp2_with fail
              go_quiet (fail)
              go_wp2
              go_ret
              exact ⟨rfl, (HT.out.later (below_drewN (Below.refl _ _) _)).low⟩
          · have t1 : (p != p') = true := by simp [e1]
            have t3 : (p == p') = false := by simp [e1]
            clear e1
            go_wp2_with fail
            go_quiet (fail)
            go_wp2
            go_ret
            exact ⟨rfl, (HT.out.later (below_drewN (Below.refl _ _) _)).low⟩
        · have hlti : ¬ ((k : Int) < (m : Int)) := by omega
          have he : es = es' := List.ext_getElem? fun j => by
            by_cases hj : j < k
            · exact HSM.out j hj
            · rw [List.getElem?_eq_none (by have := HM.out; omega), List.getElem?_eq_none (by have := HM'.out; omega)]
          have HC := Nu.hid (HL.out he wr HT.out.low)
          clear he
          go_wp2_with (go_at_call 13; refine HC.out.mono ?_; rintro e w1 ⟨rfl, hb⟩; have HB := Nu.hid (HT.out.later hb); clear hb v0 v1 v2 u0 u1 u2)
          go_ret
          exact ⟨rfl, HB.out.low⟩
    · obtain ⟨n, hn⟩ : ∃ n, ar.length = n := ⟨_, rfl⟩
      obtain ⟨n', hn'⟩ : ∃ n, ar'.length = n := ⟨_, rfl⟩
      obtain ⟨m, hmm⟩ : ∃ m, es.length = m := ⟨_, rfl⟩
      obtain ⟨m', hmm'⟩ : ∃ m, es'.length = m := ⟨_, rfl⟩
      rw [hn, hn', hmm, hmm'] at HS ⊢
      have e1 : (pl != pl) = false := by simp
      have e2 : ((m : Int) != (m' : Int)) = true := by simp; omega
      clear h h' hf hne hn hn' hmm hmm' hm h1 h2
      obtain ⟨v0, v1, v2, -⟩ := three_cells17 HS.out.b1
      obtain ⟨u0, u1, u2, -⟩ := three_cells17 HS.out.b2
      go_enter Tryd.func7, Tryd.ntmps7
      go_wp2
      go_ret
      exact ⟨rfl, HS.out.low⟩
  · obtain ⟨n, hn⟩ : ∃ n, ar.length = n := ⟨_, rfl⟩
    obtain ⟨n', hn'⟩ : ∃ n, ar'.length = n := ⟨_, rfl⟩
    obtain ⟨m, hmm⟩ : ∃ m, es.length = m := ⟨_, rfl⟩
    obtain ⟨m', hmm'⟩ : ∃ m, es'.length = m := ⟨_, rfl⟩
    rw [hn, hn', hmm, hmm'] at HS ⊢
    have e1 : (pl != pl') = true := by simp [hpl]
    clear h h' hf hne hn hn' hmm hmm' h1 h2
    obtain ⟨v0, v1, v2, -⟩ := three_cells17 HS.out.b1
    obtain ⟨u0, u1, u2, -⟩ := three_cells17 HS.out.b2
    go_enter Tryd.func7, Tryd.ntmps7
    go_wp2
    go_ret
    exact ⟨rfl, HS.out.low⟩

theorem rsame17_any {w : World} {v v' : Value} {c d : Ce.Cert} {ao eo ao' eo' : Option Addr} {ca ce ca' ce' : Nat} (h : Ce.Sees w v c ao eo ca ce) (h' : Ce.Sees w v' d ao' eo' ca' ce') (hf : Ce.Fits c) :
    ∃ t : Bool, (t = true ↔ c = d) ∧ Calls Tryd.prog 7 #[v, v'] w fun e w' => e = .returned (.bool t) ∧ Below w.heap.size w w' := by
  by_cases he : c = d
  · subst he
    exact ⟨true, by simp, rsame17_yes h h' hf⟩
  · exact ⟨false, by simp [he], rsame17_no h h' hf he⟩
end Go.Proofs.YtodlejemkihjnaaDoor

/-
  An append that leaves the list it began with as it was; lists of lists under stores.
-/
namespace Go.Proofs.YtodlejemkihjnaaDoor
open Go.RowKit

theorem grown_any {w w' : World} (h : w.grownBy w' none) (r : Option Nat) : w.grownBy w' r := ⟨h.os, h.tape, h.output, h.size, fun k hk _ => h.block k hk (by simp)⟩

/-- The row that a longer one in its block began with. -/
theorem own_front {w : World} {B g p c : Nat} {xs : List Value} {z : Value} (h : w.ownsRow B 3 1 (.slice (some ⟨g, 0, none⟩) (p + 1) c) (p + 1) (xs ++ [z])) (hx : xs.length = p) : w.ownsRow B 3 1 (.slice (some ⟨g, 0, none⟩) p c) p xs := by
  rcases h.2 with ⟨h', _⟩ | ⟨g', cap, cur, e, hB, hh, hc, hm, hs, ht⟩
  · cases h'
  · cases e
    refine ⟨by omega, .inr ⟨g, c, cur, rfl, hB, hh, by omega, hm, hs, ?_⟩⟩
    have e1 : cur.toList.take (p * 1) = (cur.toList.take ((p + 1) * 1)).take (p * 1) := by rw [List.take_take]; congr 1; omega
    rw [e1, ht, List.take_append_of_le_length (by omega), List.take_of_length_le (by omega)]

/-- 'append(v, z)' of a list of one's own: the list it began with reads as before. -/
theorem wpList_append_keep {W : World} {ops : Array Oper} {rest : List Oper} {o : Oper} {a : Act} {Q : Exit → Act → World → Prop} (hgd : o.guard = none) (s x : Operand)
    (ho : o.op = .call { callee := .builtin .append, args := #[s, x], argTypes := #[39, 39] }) (B p : Nat) (ao : Option Addr) (c : Nat) (xs : List Value) (z : Int)
    (hs : a.eval s = .slice ao p c) (hown : W.ownsRow B 3 1 (.slice ao p c) p xs) (ad : Addr) (hx : a.eval x = .slice (some ad) 1 1) (hnews : ∀ j u, [Value.int .i64 z][j]? = some u → W.cell? (ad.add j) = some u) (hp : p ≤ 17592186044000) (hB : B ≤ W.heap.size)
    (h : ∀ g' c' w', w'.ownsRow B 3 1 (.slice (some ⟨g', 0, none⟩) (p + 1) c') (p + 1) (xs ++ [.int .i64 z]) → w'.ownsRow B 3 1 (.slice ao p c) p xs → W.grownBy w' (Value.slice ao p c).ownBlock → (((Value.slice ao p c).ownBlock = some g' ∧ c' = c) ∨ W.heap.size ≤ g') → g' < w'.heap.size → wpList Tryd.prog ops Q rest (a.put o.dst (.slice (some ⟨g', 0, none⟩) (p + 1) c')) w') :
    wpList Tryd.prog ops Q (o :: rest) a W := by
  obtain ⟨i0, hi, hz0, hz1, hz2⟩ := info_parts Tryd.infoNum
  have hxl : xs.length = p := by have := hown.1; omega
  by_cases hroom : p + 1 ≤ c
  · obtain ⟨g, hg⟩ : ∃ g, ao = some ⟨g, 0, none⟩ := by
      rcases hown.2 with ⟨h', _⟩ | ⟨g, cap, cur, e, _⟩
      · cases h'; omega
      · cases e; exact ⟨g, rfl⟩
    subst hg
    refine wpList_append_own_spare (w := W) hgd s x 39 ho B 3 i0 1 Tryd.underlying39 hi hz1 g p c xs hs hown ad 1 1 [.int .i64 z] hx rfl hnews (by simp [Value.oneCell']) hroom ?_
    intro w' h2 h3
    exact h g c w' h2 (own_front h2 hxl) h3 (.inl ⟨rfl, rfl⟩) (World.ownsRow.lt h2 g rfl).2
  · refine wpList_append_grows W hgd s x 39 ho 3 i0 (.int .i64 0) 1 8 Tryd.underlying39 hi hz0 hz1 hz2 rfl (by decide) ao p c xs hs (fun e => ?_) (by omega) (fun b hb j u hj => ?_) ad 1 1 [.int .i64 z] hx rfl hnews (by simp [Value.oneCell']) (by omega) (by unfold maxLen; omega) (by omega) ?_
    · rcases hown.2 with ⟨h', h0⟩ | ⟨g, cap, cur, e', _⟩
      · cases h'; exact ⟨h0, rfl⟩
      · rw [e] at e'; cases e'
    · rcases hown.2 with ⟨h', h0⟩ | ⟨g, cap, cur, e', _⟩
      · rw [hb] at h'; cases h'
      · rw [hb] at e'
        cases e'
        have := World.ownsRow.cells hown (g := g) (by rw [hb]; rfl) j u hj
        exact this
    · intro v' w' h2 h3
      obtain ⟨g', c', rfl⟩ := own_succ h2
      have hlt := World.ownsRow.lt h2 g' rfl
      have h4 : w'.ownsRow B 3 1 (.slice (some ⟨g', 0, none⟩) (p + 1) c') (p + 1) (xs ++ [.int .i64 z]) := by
        rcases h2.2 with h' | ⟨g, cap, cur, e1, hgB, hr⟩
        · exact ⟨h2.1, .inl h'⟩
        · exact ⟨h2.1, .inr ⟨g, cap, cur, e1, Nat.le_trans hB hgB, hr⟩⟩
      exact h g' c' w' h4 (hown.kept h3 (by cases (Value.slice ao p c).ownBlock <;> simp)) (grown_any h3 _) (.inr hlt.1) hlt.2

/-- The same, however much longer. -/
theorem own_prefix {w : World} {B g p i c : Nat} {xs ys : List Value} (h : w.ownsRow B 3 1 (.slice (some ⟨g, 0, none⟩) (p + i) c) (p + i) (xs ++ ys)) (hx : xs.length = p) : w.ownsRow B 3 1 (.slice (some ⟨g, 0, none⟩) p c) p xs := by
  rcases h.2 with ⟨h', _⟩ | ⟨g', cap, cur, e, hB, hh, hc, hm, hs, ht⟩
  · cases h'
  · cases e
    refine ⟨by omega, .inr ⟨g, c, cur, rfl, hB, hh, by omega, hm, hs, ?_⟩⟩
    have e1 : cur.toList.take (p * 1) = (cur.toList.take ((p + i) * 1)).take (p * 1) := by rw [List.take_take]; congr 1; omega
    rw [e1, ht, List.take_append_of_le_length (by omega), List.take_of_length_le (by omega)]

section
variable {w w' : World} {B : Nat} {v : Value} {vs : List Value} {ls : List (List Int)}

/-- b is a block of one of the lists. -/
def inV (vs : List Value) (b : Nat) : Prop := ∃ (u : Nat) (x : Value), vs[u]? = some x ∧ x.ownBlock = some b

/-- What is not written stays. -/
theorem RowsZ.kept (h : RowsZ w B v vs ls) (hb : ∀ b, (v.ownBlock = some b ∨ inV vs b) → b < w.heap.size → w'.heap[b]? = w.heap[b]?) : RowsZ w' B v vs ls :=
  ⟨h.len, row_same h.outer fun g hg _ hl => hb g (.inl hg) hl, fun u x l hx hl => (h.row u x l hx hl).same fun g hg hlt => hb g (.inr ⟨u, x, hx, hg⟩) hlt, h.apart, h.far⟩

/-- A store into list u. -/
theorem RowsZ.write {u g p c i : Nat} {l : List Int} (h : RowsZ w B v vs ls) (hx : vs[u]? = some (.slice (some ⟨g, 0, none⟩) p c)) (hl : ls[u]? = some l) (hp : l.length = p) (hi : i < p) (z : Int) :
    (∃ y : Int, w.cell? ⟨g, i, none⟩ = some (.int .i64 y)) ∧ w.frozen? ⟨g, i, none⟩ = false ∧ RowsZ (w.setCell ⟨g, i, none⟩ (.int .i64 z)) B v vs (ls.set u (l.set i z)) ∧ B ≤ g := by
  have ho := h.row u _ l hx hl
  have hul := (List.getElem?_eq_some_iff.1 hl).1
  unfold OwnZ at ho
  rw [hp] at ho
  obtain ⟨y, hy⟩ : ∃ y, l[i]? = some y := ⟨_, List.getElem?_eq_getElem (by omega)⟩
  have hc := World.ownsRow.cells ho (g := g) rfl i (.int .i64 y) (by rw [List.getElem?_map, hy]; rfl)
  have ea : ((⟨g, 0, none⟩ : Addr).add i) = ⟨g, i, none⟩ := by
    by_cases h0 : i = 0 <;> simp [Addr.add, h0]
  rw [ea] at hc
  have hst := (ho.stored i (.int .i64 z)).1
  have hoth : ∀ b, b ≠ g → (w.setCell ⟨g, i, none⟩ (.int .i64 z)).heap[b]? = w.heap[b]? := fun b hb => heap_setCell_other w ⟨g, i, none⟩ b _ hb
  refine ⟨⟨y, hc⟩, ho.frozenAt i, ⟨by simp [h.len], by rw [List.length_set]; exact row_same h.outer fun b hb _ _ => hoth b (fun e => h.far u _ g hx rfl (by rw [← e]; exact hb)), fun a q k ha hk => ?_, h.apart, h.far⟩, (World.ownsRow.lt ho g rfl).1⟩
  rw [List.getElem?_set] at hk
  by_cases e : u = a
  · subst e
    rw [if_pos rfl, if_pos hul] at hk
    rw [hx] at ha
    cases ha
    cases hk
    unfold OwnZ
    rw [List.length_set, hp, List.map_set]
    exact hst
  · rw [if_neg e] at hk
    exact (h.row a q k ha hk).same fun b hb _ => hoth b (fun e2 => h.apart u a _ q g e hx ha rfl (by rw [← e2]; exact hb))
end

end Go.Proofs.YtodlejemkihjnaaDoor
