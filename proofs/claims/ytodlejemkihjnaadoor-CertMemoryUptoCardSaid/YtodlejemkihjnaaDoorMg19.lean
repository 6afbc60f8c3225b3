import Derived.Test.YtodlejemkihjnaaDoorMg18
import Derived.Test.YtodlejemkihjnaaDoorMg09
import Derived.Sort.Grow
/-
  The statements' own 'Apart': lists that have memory of their own.
-/
namespace Go.Proofs.YtodlejemkihjnaaDoor
open Go.RowKit Go.Sort

/-- Where lists are written over: j-th: all -1000 - j, below k; the lengths stay. -/
def Over (ls ls' : List (List Int)) (k : Nat) : Prop := ls'.length = ls.length ∧ ∀ (j : Nat) (l : List Int), ls[j]? = some l → ∃ l', ls'[j]? = some l' ∧ l'.length = l.length ∧ (j < k → l' = List.replicate l.length (-1000 - (j : Int)))

theorem row_at {w : World} {B : Nat} {v : Value} {vs : List Value} {ls : List (List Int)} (h : RowsZ w B v vs ls) {k : Nat} {x : Value} (hx : vs[k]? = some x) : ∃ g c, v = .slice (some ⟨g, 0, none⟩) ls.length c ∧ w.cell? ⟨g, k, none⟩ = some x := by
  have hk := (List.getElem?_eq_some_iff.1 hx).1
  have hl := h.len
  rcases h.outer.2 with ⟨_, h0⟩ | ⟨g, c, cur, e, _⟩
  · omega
  · refine ⟨g, c, e, ?_⟩
    have := World.ownsRow.cells h.outer (g := g) (by rw [e]; rfl) k x hx
    have ea : ((⟨g, 0, none⟩ : Addr).add k) = ⟨g, k, none⟩ := by
      by_cases h0 : k = 0 <;> simp [Addr.add, h0]
    rw [ea] at this
    exact this

/-- What was answered while lists were grown: list j with one number more. -/
def grownList (ls : List (List Int)) (k : Nat) : List (List Int) := (List.range k).map fun j => (ls.getD j []) ++ [5000 + (j : Int)]

theorem grown_succ (ls : List (List Int)) (k : Nat) : grownList ls (k + 1) = grownList ls k ++ [(ls.getD k []) ++ [5000 + (k : Int)]] := by
  unfold grownList
  rw [List.range_succ, List.map_append]
  rfl
theorem grown_length (ls : List (List Int)) (k : Nat) : (grownList ls k).length = k := by simp [grownList]
theorem grown_at {ls : List (List Int)} {k j : Nat} (h : j < k) : (grownList ls k)[j]? = some ((ls.getD j []) ++ [5000 + (j : Int)]) := by
  unfold grownList
  rw [List.getElem?_map, List.getElem?_range h]
  rfl

/-- The lists of 'all' and of 'grown', beside each other; S0: the heap's size ahead. -/
structure Both (w : World) (B S0 : Nat) (v : Value) (vs : List Value) (ls : List (List Int)) (gv : Value) (gs : List Value) (k : Nat) (V : World) : Prop where
  all : RowsZ V B v vs ls
  grown : RowsZ V B gv gs (grownList ls k)
  from_ : ∀ (j : Nat) (y : Value) (b : Nat), gs[j]? = some y → y.ownBlock = some b → (∃ x, vs[j]? = some x ∧ x.ownBlock = some b) ∨ S0 ≤ b
  outer : ∀ b, gv.ownBlock = some b → S0 ≤ b
  wrote : Wrote (inV vs) w V
  sz : S0 ≤ V.heap.size
  old : ∀ b, (v.ownBlock = some b ∨ inV vs b) → b < S0

section
variable {w : World} {B S0 : Nat} {v : Value} {vs : List Value} {ls : List (List Int)} {gv : Value} {gs : List Value} {k : Nat} {V V' : World}

theorem Both.later (h : Both w B S0 v vs ls gv gs k V) (hb : Below V.heap.size V V') : Both w B S0 v vs ls gv gs k V' :=
  ⟨h.all.later hb, h.grown.later hb, h.from_, h.outer, h.wrote.later hb, Nat.le_trans h.sz hb.size, h.old⟩

/-- List j, or new memory, is written; list j reads as before. -/
theorem Both.after (h : Both w B S0 v vs ls gv gs k V) {x : Value} {l : List Int} (hx : vs[k]? = some x) (hl : ls[k]? = some l) (hk : gs.length = k) {r : Option Nat} (hg : V.grownBy V' r) {S1 : Nat} (hS : w.heap.size ≤ S1 ∧ S0 ≤ S1) (hgS : ∀ b, (gv.ownBlock = some b ∨ inV gs b) → b < S1) (hr : ∀ b, r = some b → (x.ownBlock = some b ∨ S1 ≤ b)) (hrow : OwnZ V' B x l) : Both w B S0 v vs ls gv gs k V' := by
  have hxS : ∀ b, x.ownBlock = some b → b < S0 := fun b hb => h.old b (.inr ⟨k, x, hx, hb⟩)
  have hsame : ∀ b, b < V.heap.size → (x.ownBlock ≠ some b) → b < S1 → V'.heap[b]? = V.heap[b]? := fun b hb h1 h2 => hg.block b hb (fun e => by
    rcases hr b e.symm with h3 | h3
    · exact h1 h3
    · omega)
  refine ⟨⟨h.all.len, row_same h.all.outer fun b hb _ hlt => hsame b hlt (fun e => h.all.far k x b hx e hb) (Nat.lt_of_lt_of_le (h.old b (.inl hb)) hS.2), fun u y q hy hq => ?_, h.all.apart, h.all.far⟩, h.grown.kept fun b hb hlt => hsame b hlt (fun e => ?_) (hgS b hb), h.from_, h.outer, ?_, Nat.le_trans h.sz hg.size, h.old⟩
  · by_cases e : k = u
    · subst e
      rw [hx] at hy
      rw [hl] at hq
      cases hy
      cases hq
      exact hrow
    · exact (h.all.row u y q hy hq).same fun b hb hlt => hsame b hlt (fun e2 => h.all.apart k u x y b e hx hy e2 hb) (Nat.lt_of_lt_of_le (h.old b (.inr ⟨u, y, hy, hb⟩)) hS.2)
  · rcases hb with hb | ⟨u, y, hy, hb⟩
    · have h1 := h.outer b hb
      have h2 := hxS b e
      omega
    · rcases h.from_ u y b hy hb with ⟨x', hx', hb'⟩ | h1
      · have hu : u < gs.length := (List.getElem?_eq_some_iff.1 hy).1
        exact h.all.apart k u x x' b (by omega) hx hx' e hb'
      · have h2 := hxS b e
        omega
  · refine ⟨hg.os.trans h.wrote.os, hg.tape.trans h.wrote.tape, hg.output.trans h.wrote.output, Nat.le_trans h.wrote.size hg.size, fun b hb hn => ?_⟩
    rw [hsame b (Nat.lt_of_lt_of_le hb h.wrote.size) (fun e => hn ⟨k, x, hx, e⟩) (Nat.lt_of_lt_of_le hb hS.1)]
    exact h.wrote.block b hb hn

/-- The outer list of 'grown' gets one more. -/
theorem Both.next {W : World} (h : Both w B S0 v vs ls gv gs k W) {x y gv' : Value} {l : List Int} (hx : vs[k]? = some x) (hlg : ls.getD k [] = l) (hk : gs.length = k) (hy : OwnZ W B y (l ++ [5000 + (k : Int)])) (hyb : ∀ b, y.ownBlock = some b → (x.ownBlock = some b ∨ (S0 ≤ b ∧ ¬ (gv.ownBlock = some b ∨ inV gs b))))
    {tmp : Obj} {w1 : World} (hown : w1.ownsRow B 39 1 gv' (k + 1) (gs ++ [y])) (hgrow : (W.alloc tmp).grownBy w1 gv.ownBlock) (hat : gv'.ownBlock = gv.ownBlock ∨ gv'.ownBlock = some (W.heap.size + 1)) (hwS : w.heap.size ≤ S0) :
    Both w B S0 v vs ls gv' (gs ++ [y]) (k + 1) w1 := by
  have hxS : ∀ b, x.ownBlock = some b → b < S0 := fun b hb => h.old b (.inr ⟨k, x, hx, hb⟩)
  have hsame : ∀ b, gv.ownBlock ≠ some b → b < W.heap.size → w1.heap[b]? = W.heap[b]? := fun b hne hb => by
    rw [hgrow.block b (by rw [World.size_alloc]; omega) (fun e => hne e.symm)]
    exact Below.heap_alloc W tmp b hb
  have hsz := hgrow.size
  rw [World.size_alloc] at hsz
  refine ⟨h.all.kept fun b hb hlt => hsame b (fun e => ?_) hlt, ?_, fun j z b hz hb => ?_, fun b hb => ?_, ?_, Nat.le_trans h.sz (by omega), h.old⟩
  · have h1 := h.outer b e
    have h2 := h.old b hb
    omega
  · have hgr := h.grown.grow (x := y) (l := l ++ [5000 + (k : Int)]) (v' := gv') hy (fun u q b hq hqb hyb' => ?_) (fun b hgb hyb' => ?_) (tmp := tmp) (by rw [grown_length]; exact hown) hgrow hat
    · rw [grown_succ, hlg]
      exact hgr
    · rcases hyb b hyb' with h1 | ⟨_, h1⟩
      · rcases h.from_ u q b hq hqb with ⟨x', hx', hb'⟩ | h2
        · have hu : u < gs.length := (List.getElem?_eq_some_iff.1 hq).1
          exact h.all.apart k u x x' b (by omega) hx hx' h1 hb'
        · have := hxS b h1
          omega
      · exact h1 (.inr ⟨u, q, hq, hqb⟩)
    · rcases hyb b hyb' with h1 | ⟨_, h1⟩
      · have := hxS b h1
        have := h.outer b hgb
        omega
      · exact h1 (.inl hgb)
  · by_cases hj : j < gs.length
    · rw [List.getElem?_append_left hj] at hz
      exact h.from_ j z b hz hb
    · rw [List.getElem?_append_right (by omega)] at hz
      have hl0 := (List.getElem?_eq_some_iff.1 hz).1
      have e0 : j - gs.length = 0 := by simp at hl0; omega
      rw [e0] at hz
      obtain rfl := Option.some.inj hz
      obtain rfl : j = k := by omega
      rcases hyb b hb with h1 | ⟨h1, _⟩
      · exact .inl ⟨x, hx, h1⟩
      · exact .inr h1
  · rcases hat with e | e
    · exact h.outer b (e.symm.trans hb)
    · have := Option.some.inj (e.symm.trans hb)
      have := h.sz
      omega
  · refine ⟨hgrow.os.trans h.wrote.os, hgrow.tape.trans h.wrote.tape, hgrow.output.trans h.wrote.output, Nat.le_trans h.wrote.size (by omega), fun b hb hn => ?_⟩
    rw [hsame b (fun e => by have := h.outer b e; omega) (Nat.lt_of_lt_of_le hb h.wrote.size)]
    exact h.wrote.block b hb hn
end

set_option maxRecDepth 100000 in
set_option maxHeartbeats 16000000 in
theorem apart_upto (v : Value) (vs : List Value) (ls : List (List Int)) (B : Nat) (w : World) (h : RowsZ w B v vs ls) (hB : B ≤ w.heap.size) (hN : ls.length ≤ 100000000) (hll : ∀ l ∈ ls, l.length ≤ 33554432) :
    Calls Tryd.prog 10 #[v] w fun e w' => e = .returned (.bool true) ∧ Wrote (inV vs) w w' := by
  obtain ⟨i0, hi, hz0, hz1, hz2⟩ := info_parts Tryd.infoNum
  obtain ⟨i1, hi1, hy0, hy1, hy2⟩ := info_parts Tryd.infoRow
  obtain ⟨vo, vc, hve⟩ : ∃ ao c, v = .slice ao ls.length c := by
    rcases h.outer.2 with ⟨rfl, h0⟩ | ⟨g, cap, cur, rfl, _⟩
    · exact ⟨none, 0, by rw [h0]⟩
    · exact ⟨_, cap, rfl⟩
  have H := Nu.hid h
  have HLL := Nu.hid hll
  obtain ⟨N, hNe⟩ : ∃ N, ls.length = N := ⟨_, rfl⟩
  rw [hNe] at hve hN
  have HN := Nu.hid hNe
  subst hve
  clear h hll hNe
  go_enter Tryd.func10, Tryd.ntmps10
  go_wp2
  -- written over
  go_loopw [16] (fun cv wr => ∃ (k : Nat) (ls' : List (List Int)), k ≤ N ∧ cv = .int .i64 (k : Int) ∧ RowsZ wr B (.slice vo N vc) vs ls' ∧ Over ls ls' k ∧ Wrote (inV vs) w wr) (fun cv _ => N - (intOf cv).toNat)
  case atStart => exact ⟨0, ls, Nat.zero_le _, rfl, H.out, ⟨rfl, fun j l hl => ⟨l, hl, rfl, fun h => by omega⟩⟩, Wrote.refl _ _⟩
  case round =>
    obtain ⟨k, ls', hk, rfl, hrows, hov, hwr⟩ := hrel
    obtain ⟨w0, rfl⟩ : ∃ w0, w0 = wr := ⟨wr, rfl⟩
    have HOV := Nu.hid hov
    have HROWS := Nu.hid hrows
    have HWR := Nu.hid hwr
    by_cases hlt : k < N
    · have hlti : (k : Int) < (N : Int) := by omega
      have hk0 : (0 : Int) ≤ (k : Int) := by omega
      obtain ⟨l, hl⟩ : ∃ l, ls[k]? = some l := ⟨_, List.getElem?_eq_getElem (by rw [HN.out]; exact hlt)⟩
      obtain ⟨l', hl', hll', -⟩ := hov.2 k l hl
      obtain ⟨x, hx⟩ := hrows.at' hl'
      obtain ⟨g, gc, hvg, cx⟩ := row_at hrows hx
      obtain ⟨xo, xc, hxe, -, -⟩ := (hrows.row k x l' hx hl').form
      have hlen : ls'.length = N := by rw [hov.1, HN.out]
      rw [hlen] at hvg
      have hvo : vo = some ⟨g, 0, none⟩ := by cases hvg; rfl
      obtain ⟨p, hp⟩ : ∃ p, l'.length = p := ⟨_, rfl⟩
      rw [hp] at hxe
      have hpl : p ≤ 33554432 := by rw [← hp, hll']; exact HLL.out l (List.mem_of_getElem? hl)
      subst hxe
      have HX := Nu.hid hx
      have HL := Nu.hid hl
      have HL' := Nu.hid hl'
      have HP := Nu.hid hp
      have HPL : Hid (l.length = p) := hll'.symm.trans hp
      have HLEN := Nu.hid hlen
      clear hrows hov hwr hx hl hl' hll' hp hlen hvg
      subst hvo
      go_wp2
      go_loopw [23] (fun cv wx => ∃ (i : Nat) (q : List Int), i ≤ p ∧ cv = .int .i64 (i : Int) ∧ q.length = p ∧ (∀ t, t < i → q[t]? = some (-1000 - (k : Int))) ∧ RowsZ wx B (.slice (some ⟨g, 0, none⟩) N vc) vs (ls'.set k q) ∧ Wrote (inV vs) w wx) (fun cv _ => p - (intOf cv).toNat)
      case atStart =>
        refine ⟨0, l', Nat.zero_le _, rfl, HP.out, fun t ht => by omega, ?_, HWR.out⟩
        have e : ls'.set k l' = ls' := by
          refine List.ext_getElem? fun j => ?_
          rw [List.getElem?_set]
          by_cases e : k = j
          · subst e
            rw [if_pos rfl, if_pos (by rw [HLEN.out]; exact hlt), HL'.out]
          · rw [if_neg e]
        rw [e]
        exact HROWS.out
      case round =>
        obtain ⟨i, q, hip, rfl, hq, hqt, hrx, hwx⟩ := hrel
        have HRX := Nu.hid hrx
        have HWX := Nu.hid hwx
        have HQ := Nu.hid hq
        have HQT := Nu.hid hqt
        by_cases hil : i < p
        · have hili : (i : Int) < (p : Int) := by omega
          have hi0 : (0 : Int) ≤ (i : Int) := by omega
          obtain ⟨gx, hgx⟩ : ∃ gx, xo = some ⟨gx, 0, none⟩ := by
            have := hrx.row k _ q HX.out (by rw [List.getElem?_set, if_pos rfl, if_pos (by rw [HLEN.out]; exact hlt)])
            rcases this.2 with ⟨h', h0⟩ | ⟨g', c', cur, e', _⟩
            · omega
            · cases e'; exact ⟨g', rfl⟩
          subst hgx
          obtain ⟨⟨y, cy⟩, fy, hrw, -⟩ := hrx.write HX.out (by rw [List.getElem?_set, if_pos rfl, if_pos (by rw [HLEN.out]; exact hlt)]) hq hil (-1000 - (k : Int))
          have HRW := Nu.hid hrw
          have HWW := Nu.hid (hwx.setCell (b := gx) (i := i) ⟨k, _, HX.out, rfl⟩ (.int .i64 (-1000 - (k : Int))))
          clear hq hqt hrx hwx hrw
          go_wp2
          go_roundw
          case rel =>
            refine ⟨i + 1, q.set i (-1000 - (k : Int)), by omega, by go_num, by rw [List.length_set]; exact HQ.out, fun t ht => ?_, ?_, HWW.out⟩
            · rw [List.getElem?_set]
              by_cases e : i = t
              · rw [if_pos e, if_pos (by rw [HQ.out]; exact hil)]
              · rw [if_neg e]; exact HQT.out t (by omega)
            · have := HRW.out
              rw [List.set_set] at this
              exact this
          case measure => simp [intOf]; omega
        · have hd2 : ¬ ((i : Int) < (p : Int)) := by omega
          have hqr : q = List.replicate l.length (-1000 - (k : Int)) := by
            refine List.ext_getElem? fun t => ?_
            rw [List.getElem?_replicate, HPL.out]
            by_cases ht : t < p
            · rw [if_pos ht]; exact hqt t (by omega)
            · rw [if_neg ht, List.getElem?_eq_none (by omega)]
          have HQR := Nu.hid hqr
          clear hq hqt hrx hwx hqr
          go_wp2
          go_roundw
          case rel =>
            refine ⟨k + 1, _, by omega, by go_num, HRX.out, ⟨by rw [List.length_set]; exact HOV.out.1, fun j b hb => ?_⟩, HWX.out⟩
            rw [List.getElem?_set]
            by_cases e : k = j
            · subst e
              rw [HL.out] at hb
              cases hb
              exact ⟨q, by rw [if_pos rfl, if_pos (by rw [HLEN.out]; exact hlt)], by rw [HQ.out, HPL.out], fun _ => HQR.out⟩
            · rw [if_neg e]
              obtain ⟨b', h1, h2, h3⟩ := HOV.out.2 j b hb
              exact ⟨b', h1, h2, fun hj => h3 (by omega)⟩
          case measure => simp [intOf]; omega
    · have hd : ¬ ((k : Int) < (N : Int)) := by omega
      obtain rfl : k = N := by omega
      -- the lists now
      have HN' : Hid (ls'.length = k) := hov.1.trans HN.out
      have hllN : ∀ (j : Nat) (l : List Int), ls'[j]? = some l → l.length ≤ 33554432 ∧ l = List.replicate l.length (-1000 - (j : Int)) := fun j l' hl' => by
        have hjl := (List.getElem?_eq_some_iff.1 hl').1
        obtain ⟨l, hl⟩ : ∃ l, ls[j]? = some l := ⟨_, List.getElem?_eq_getElem (by rw [← hov.1]; exact hjl)⟩
        obtain ⟨l2, h1, h2, h3⟩ := hov.2 j l hl
        rw [hl'] at h1
        cases h1
        refine ⟨by rw [h2]; exact HLL.out l (List.mem_of_getElem? hl), ?_⟩
        rw [h2]
        exact h3 (by rw [HN'.out] at hjl; exact hjl)
      have HLN := Nu.hid hllN
      have HST : Hid (Both w B w0.heap.size (.slice vo k vc) vs ls' (.slice none 0 0) [] 0 w0) := ⟨hrows, RowsZ.nil _ _, (fun j y b hy => by simp at hy), (fun b hb => by cases hb), hwr, Nat.le_refl _, fun b hb => by
        rcases hb with hb | ⟨u, x, hx, hb⟩
        · exact (World.ownsRow.lt hrows.outer b hb).2
        · obtain ⟨l, hl⟩ := hrows.at hx
          exact (World.ownsRow.lt (hrows.row u x l hx hl) b hb).2⟩
      have hBw : B ≤ w0.heap.size := Nat.le_trans hB hwr.size
      have hwS : w.heap.size ≤ w0.heap.size := hwr.size
      clear hrows hov hwr hllN
      go_wp2
      go_loopw [6, 35] (fun gv cv wr => ∃ (j : Nat) (gs : List Value), j ≤ k ∧ cv = .int .i64 (j : Int) ∧ gs.length = j ∧ Both w B w0.heap.size (.slice vo k vc) vs ls' gv gs j wr) (fun _ cv _ => k - (intOf cv).toNat)
      case atStart => exact ⟨0, [], Nat.zero_le _, rfl, rfl, HST.out⟩
      case round =>
        obtain ⟨j, gs, hj, rfl, hgl, hbo⟩ := hrel
        obtain ⟨w1, rfl⟩ : ∃ w1, w1 = wr := ⟨wr, rfl⟩
        obtain ⟨go, gc, hgv⟩ := row_shape hbo.grown
        rw [grown_length] at hgv
        subst hgv
        have HBO := Nu.hid hbo
        have HGL := Nu.hid hgl
        by_cases hjk : j < k
        · have hjki : (j : Int) < (k : Int) := by omega
          have hj0 : (0 : Int) ≤ (j : Int) := by omega
          obtain ⟨l, hl⟩ : ∃ l, ls'[j]? = some l := ⟨_, List.getElem?_eq_getElem (by rw [HN'.out]; exact hjk)⟩
          obtain ⟨x, hx⟩ := hbo.all.at' hl
          obtain ⟨g, gc', hvg, cx⟩ := row_at hbo.all hx
          rw [HN'.out] at hvg
          have hvo : vo = some ⟨g, 0, none⟩ := by cases hvg; rfl
          obtain ⟨xo, xc, hxe, -, -⟩ := (hbo.all.row j x l hx hl).form
          have hlL := (HLN.out j l hl).1
          have hrow0 := hbo.all.row j x l hx hl
          unfold OwnZ at hrow0
          obtain ⟨p, hp⟩ : ∃ p, l.length = p := ⟨_, rfl⟩
          rw [hp] at hxe hlL hrow0
          subst hxe
          have hgS : ∀ b, ((Value.slice go j gc).ownBlock = some b ∨ inV gs b) → b < w1.heap.size := fun b hb => by
            rcases hb with hb | ⟨u, y, hy, hb⟩
            · exact (World.ownsRow.lt hbo.grown.outer b hb).2
            · obtain ⟨q, hq⟩ := hbo.grown.at hy
              exact (World.ownsRow.lt (hbo.grown.row u y q hy hq) b hb).2
          have HGS := Nu.hid hgS
          have hS1 := hbo.sz
          have HX := Nu.hid hx
          have HL := Nu.hid hl
          have HP := Nu.hid hp
          have HR0 := Nu.hid hrow0
          subst hvo
          clear hbo hx hl hp hvg hrow0 hgS hgl
          go_wp2
          clear cx
          go_loopw [9, 10] (fun gw cv wx => ∃ (i : Nat) (yo : Option Addr) (yc : Nat) (ys : List Value), i ≤ 32 ∧ cv = .int .i64 (i : Int) ∧ gw = .slice yo (p + i) yc ∧ ys.length = i ∧ wx.ownsRow B 3 1 (.slice yo (p + i) yc) (p + i) (l.map (Value.int .i64) ++ ys) ∧ ((yo = xo ∧ yc = xc) ∨ ∃ g', yo = some ⟨g', 0, none⟩ ∧ w1.heap.size ≤ g') ∧ Both w B w0.heap.size (.slice (some ⟨g, 0, none⟩) k vc) vs ls' (.slice go j gc) gs j wx ∧ w1.heap.size ≤ wx.heap.size) (fun _ cv _ => 32 - (intOf cv).toNat)
          case atStart => exact ⟨0, xo, xc, [], by omega, rfl, rfl, rfl, by rw [List.append_nil]; exact HR0.out, .inl ⟨rfl, rfl⟩, HBO.out, Nat.le_refl _⟩
          case round =>
            obtain ⟨i, yo, yc, ys, hi32, rfl, rfl, hys, hown, hyo, hbx, hsx⟩ := hrel
            have HOWN := Nu.hid hown
            have HYO := Nu.hid hyo
            have HBX := Nu.hid hbx
            have HYS := Nu.hid hys
            by_cases hi3 : i < 32
            · have hi3i : (i : Int) < 32 := by omega
              clear hown hyo hbx hys
              go_wp2_with (at_builtin; refine wpList_append_keep rfl _ _ rfl B (p + i) yo yc _ (-7) rfl (World.ownsRow.alloc HOWN.out _) ⟨wr.heap.size, 0, none⟩ rfl (cell_one_new _ _ _) (by omega) (by simp; omega) ?_; refine Hid.out ?_)
              refine Nu.hid ?_
              intro g2 c2 w2 hnew hold hgrow hblk hlt2
              have hnew' : w2.ownsRow B 3 1 (.slice (some ⟨g2, 0, none⟩) (p + (i + 1)) c2) (p + (i + 1)) (l.map (Value.int .i64) ++ (ys ++ [.int .i64 (-7)])) := by
                exact hnew
              have hxrow : OwnZ w2 B (.slice xo p xc) l := by
                unfold OwnZ
                rw [HP.out]
                rcases HYO.out with ⟨rfl, rfl⟩ | ⟨g', rfl, hg'⟩
                · rcases HR0.out.2 with ⟨h', h0⟩ | ⟨gx, c', cur, e', _⟩
                  · have hl0 : l = [] := List.length_eq_zero_iff.1 (by rw [HP.out]; exact h0)
                    rw [h', hl0, h0]
                    exact World.ownsRow_nil _ _ _ _
                  · cases e'
                    exact own_prefix hold (by simp [HP.out])
                · have hx2 := HBX.out.all.row j _ l HX.out HL.out
                  have hx3 : OwnZ w2 B (.slice xo p xc) l := hx2.same fun b hb hltb => by
                    rw [hgrow.block b (by rw [World.size_alloc]; omega) (fun e => ?_)]
                    · exact Below.heap_alloc wr _ b hltb
                    · have e3 : g' = b := by simpa [Value.ownBlock] using e.symm
                      have := HBX.out.old b (.inr ⟨j, _, HX.out, hb⟩)
                      omega
                  unfold OwnZ at hx3
                  rw [HP.out] at hx3
                  exact hx3
              have hbo2 := (HBX.out.later ((Below.refl wr.heap.size wr).alloc (Nat.le_refl _) (.cells #[.int .i64 (-7)] 3))).after HX.out HL.out HGL.out hgrow (S1 := w1.heap.size) ⟨by omega, hS1⟩ HGS.out (fun b hb => by
                rcases HYO.out with ⟨rfl, rfl⟩ | ⟨g', rfl, hg'⟩
                · left
                  cases yo
                  · cases hb
                  · exact hb
                · have e3 : g' = b := by simpa [Value.ownBlock] using hb
                  exact .inr (by omega)) hxrow
              have hblk2 : ((some ⟨g2, 0, none⟩ : Option Addr) = xo ∧ c2 = xc) ∨ ∃ g', (some ⟨g2, 0, none⟩ : Option Addr) = some ⟨g', 0, none⟩ ∧ w1.heap.size ≤ g' := by
                rcases hblk with ⟨hb1, rfl⟩ | hb1
                · rcases HYO.out with ⟨rfl, rfl⟩ | ⟨g', rfl, hg'⟩
                  · left
                    rcases HOWN.out.2 with ⟨h', h0⟩ | ⟨gx, c', cur, e', _⟩
                    · rw [h'] at hb1; cases hb1
                    · cases e'
                      have e3 : gx = g2 := by simpa [Value.ownBlock] using hb1
                      subst e3
                      exact ⟨rfl, rfl⟩
                  · right
                    have e3 : g' = g2 := by simpa [Value.ownBlock] using hb1
                    subst e3
                    exact ⟨g', rfl, hg'⟩
                · right
                  exact ⟨g2, rfl, by omega⟩
              have HNEW := Nu.hid hnew'
              have HBO2 := Nu.hid hbo2
              have HBK := Nu.hid hblk2
              have hsz2 := hgrow.size
              rw [World.size_alloc] at hsz2
              clear hnew hold hgrow hblk hnew' hxrow hbo2 hblk2
              go_wp2
              go_roundw
              case rel => exact ⟨i + 1, some ⟨g2, 0, none⟩, c2, ys ++ [.int .i64 (-7)], by omega, by go_num, rfl, by rw [List.length_append, HYS.out]; rfl, HNEW.out, HBK.out, HBO2.out, by omega⟩
              case measure => simp [intOf]; omega
            · have hd3 : ¬ (i : Int) < 32 := by omega
              obtain ⟨w5, rfl⟩ : ∃ w5, w5 = wr := ⟨wr, rfl⟩
              have hr5 := hbx.all.row j _ l HX.out HL.out
              unfold OwnZ at hr5
              rw [HP.out] at hr5
              have HR5 := Nu.hid hr5
              have h5000 : IntKind.i64.wrap (5000 + (j : Int)) = 5000 + (j : Int) := by
                rw [IntKind.wrap_i64]
                omega
              clear hown hyo hbx hys hr5
              go_wp2_with (at_builtin; refine wpList_append_keep rfl _ _ rfl B p xo xc _ (5000 + (j : Int)) rfl (World.ownsRow.alloc HR5.out _) ⟨w5.heap.size, 0, none⟩ rfl (cell_one_new _ _ _) (by omega) (by simp; omega) ?_; refine Hid.out ?_)
              refine Nu.hid ?_
              intro g2 c2 w2 hnew hold hgrow hblk hlt2
              have hy : OwnZ w2 B (.slice (some ⟨g2, 0, none⟩) (p + 1) c2) (l ++ [5000 + (j : Int)]) := by
                unfold OwnZ
                rw [List.length_append, List.map_append, HP.out]
                exact hnew
              have hbo2 := (HBX.out.later ((Below.refl w5.heap.size w5).alloc (Nat.le_refl _) (.cells #[.int .i64 (5000 + (j : Int))] 3))).after HX.out HL.out HGL.out hgrow (S1 := w1.heap.size) ⟨by omega, hS1⟩ HGS.out (fun b hb => .inl hb) (by unfold OwnZ; rw [HP.out]; exact hold)
              have hyb : ∀ b, (Value.slice (some ⟨g2, 0, none⟩) (p + 1) c2).ownBlock = some b → ((Value.slice xo p xc).ownBlock = some b ∨ (w0.heap.size ≤ b ∧ ¬ ((Value.slice go j gc).ownBlock = some b ∨ inV gs b))) := fun b hb => by
                have e3 : g2 = b := by simpa [Value.ownBlock] using hb
                subst e3
                rcases hblk with ⟨h1, _⟩ | h1
                · exact .inl h1
                · exact .inr ⟨by omega, fun h2 => by have := HGS.out g2 h2; omega⟩
              have hout := hbo2.grown.outer
              rw [grown_length] at hout
              have HOUT := Nu.hid hout
              have HY := Nu.hid hy
              have HBO2 := Nu.hid hbo2
              have HYB := Nu.hid hyb
              have hsz2 := hgrow.size
              rw [World.size_alloc] at hsz2
              clear hnew hold hgrow hblk hy hbo2 hyb hout
              go_wp2_with (at_builtin; refine wpList_append_own_at _ rfl _ _ 22 rfl B 39 i1 (.slice none 0 0) 1 24 Tryd.underlying22 hi1 hy0 hy1 hy2 rfl (by decide) _ _ _ rfl (World.ownsRow.alloc HOUT.out _) ⟨w2.heap.size, 0, none⟩ 1 1 [.slice (some ⟨g2, 0, none⟩) (p + 1) c2] rfl rfl (cell_one_new _ _ _) (by simp [Value.oneCell']) (by unfold maxLen; omega) (by omega) (by simp; omega) ?_; refine Hid.out ?_)
              refine Nu.hid ?_
              intro gv3 w3 hown3 hgrow3 _ hat3
              have hgd : ls'.getD j [] = l := by rw [List.getD_eq_getElem?_getD, HL.out]; rfl
              have hb3 := HBO2.out.next HX.out hgd HGL.out HY.out HYB.out hown3 hgrow3 (by simpa using hat3) hwS
              have HB3 := Nu.hid hb3
              clear hown3 hgrow3 hat3 hb3
              go_wp2
              go_roundw
              case rel => exact ⟨j + 1, _, by omega, by go_num, by rw [List.length_append, HGL.out]; rfl, HB3.out⟩
              case measure => simp [intOf]; omega
        · have hd4 : ¬ ((j : Int) < (k : Int)) := by omega
          obtain rfl : j = k := by omega
          clear hbo hgl
          go_wp2
          go_loopw [59] (fun cv wr => ∃ t : Nat, t ≤ j ∧ cv = .int .i64 (t : Int) ∧ wr = w1) (fun cv _ => j - (intOf cv).toNat)
          case atStart => exact ⟨0, Nat.zero_le _, rfl, rfl⟩
          case round =>
            obtain ⟨t, ht, rfl, hwr⟩ := hrel
            obtain rfl := hwr.symm
            clear hwr
            by_cases htk : t < j
            · have htki : (t : Int) < (j : Int) := by omega
              have ht0 : (0 : Int) ≤ (t : Int) := by omega
              obtain ⟨l, hl⟩ : ∃ l, ls'[t]? = some l := ⟨_, List.getElem?_eq_getElem (by rw [HN'.out]; exact htk)⟩
              obtain ⟨x, hx⟩ := HBO.out.all.at' hl
              obtain ⟨g, gc', hvg, cx⟩ := row_at HBO.out.all hx
              rw [HN'.out] at hvg
              have hvo : vo = some ⟨g, 0, none⟩ := by cases hvg; rfl
              obtain ⟨xo, xc, hxe, hxat, -⟩ := (HBO.out.all.row t x l hx hl).form
              obtain ⟨y, hy⟩ := HBO.out.grown.at' (grown_at (ls := ls') htk)
              obtain ⟨g6, c6, hg6, cy⟩ := row_at HBO.out.grown hy
              rw [grown_length] at hg6
              have hgo : go = some ⟨g6, 0, none⟩ := by cases hg6; rfl
              have hgd : ls'.getD t [] = l := by rw [List.getD_eq_getElem?_getD, hl]; rfl
              have hyrow := HBO.out.grown.row t y _ hy (grown_at (ls := ls') htk)
              rw [hgd] at hyrow
              obtain ⟨yo, yc, hye, hyat, -⟩ := hyrow.form
              obtain ⟨p, hp⟩ : ∃ p, l.length = p := ⟨_, rfl⟩
              have hlL := HLN.out t l hl
              rw [List.length_append, hp] at hye
              rw [hp] at hxe hlL
              obtain ⟨yb, yoff, hyo, clast⟩ := hyat p (5000 + (t : Int)) (by rw [List.getElem?_append_right (by omega), hp, Nat.sub_self]; rfl)
              have hlc : ∀ i, i < p → ∃ b o : Nat, xo = some ⟨b, o, none⟩ ∧ w1.cell? ⟨b, o + i, none⟩ = some (.int .i64 (-1000 - (t : Int))) := fun i hip => by
                refine hxat i _ ?_
                rw [hlL.2, List.getElem?_replicate, if_pos hip]
              have HLC := Nu.hid hlc
              have hpl := hlL.1
              subst hxe
              subst hye
              subst hvo
              subst hgo
              subst hyo
              have p0 : (0 : Int) ≤ (p : Int) := by omega
              have p1 : (p : Int) < (p : Int) + 1 := by omega
              have h5000 : IntKind.i64.wrap (5000 + (t : Int)) = 5000 + (t : Int) := by
                rw [IntKind.wrap_i64]
                omega
              have e5 : ((5000 + (t : Int)) != (5000 + (t : Int))) = false := by simp
              have e6 : ((-1000 - (t : Int)) != (-1000 - (t : Int))) = false := by simp
              clear hl hx hvg hxat hy hg6 hgd hyrow hyat hp hlL hlc
              go_wp2
              go_loopw [66] (fun cv wx => ∃ i : Nat, i ≤ p ∧ cv = .int .i64 (i : Int) ∧ wx = w1) (fun cv _ => p - (intOf cv).toNat)
              case atStart => exact ⟨0, Nat.zero_le _, rfl, rfl⟩
              case round =>
                obtain ⟨i, hip, rfl, hwx⟩ := hrel
                obtain rfl := hwx.symm
                clear hwx
                by_cases hil : i < p
                · have hili : (i : Int) < (p : Int) := by omega
                  have hi00 : (0 : Int) ≤ (i : Int) := by omega
                  obtain ⟨b, o, hxo, ci⟩ := HLC.out i hil
                  subst hxo
                  go_wp2
                  go_roundw
                  case rel => exact ⟨i + 1, by omega, by go_num, by first | rfl | trivial⟩
                  case measure => simp [intOf]; omega
                · have hd6 : ¬ ((i : Int) < (p : Int)) := by omega
                  go_wp2
                  go_roundw
                  case rel => exact ⟨t + 1, by omega, by go_num, by first | rfl | trivial⟩
                  case measure => simp [intOf]; omega
            · have hd5 : ¬ ((t : Int) < (j : Int)) := by omega
              go_wp2
              go_ret
              exact ⟨rfl, HBO.out.wrote⟩

theorem apart_any (v : Value) (vs : List Value) (ls : List (List Int)) (B : Nat) (w : World) (h : RowsZ w B v vs ls) (hB : B ≤ w.heap.size) (hN : ls.length ≤ 100000000) (hll : ∀ l ∈ ls, l.length ≤ 8388608) :
    Calls Tryd.prog 10 #[v] w fun e w' => e = .returned (.bool true) ∧ Wrote (inV vs) w w' :=
  apart_upto v vs ls B w h hB hN fun l hl => Nat.le_trans (hll l hl) (by decide)

end Go.Proofs.YtodlejemkihjnaaDoor
