/-
  The document's Recognise of layer 15: what it answers, its pairs of branch vertices, its loop's memory.
-/
import Derived.Test.YtdhaaodalchpkaaKuQ
namespace Go.Proofs.Ytdhaaodalchpkaa
open Go.RowKit Go.Sort

namespace Ku
/-- Vertices of neither degree 0 nor degree 2. -/
def restI (dl : List Int) (m : Nat) : Int := (m : Int) - ((ofL dl 0 m).length : Int) - ((ofL dl 2 m).length : Int)
def Is5 (dl : List Int) (m : Nat) (R : List (List Int)) : Prop := (ofL dl 4 m).length = 5 ∧ restI dl m = 5 ∧ R.length = 10
def Is33 (dl : List Int) (m : Nat) (R : List (List Int)) : Prop := (ofL dl 3 m).length = 6 ∧ restI dl m = 6 ∧ R.length = 9
/-- The pairs of the i-th with those below j, as kind kd asks for them. -/
def inn (kd : Nat) (i : Nat) : Nat → List (Nat × Nat)
  | 0 => []
  | j + 1 => if i < j ∧ ¬ (kd = 2 ∧ (3 ≤ i ∨ j < 3)) then inn kd i j ++ [(i, j)] else inn kd i j
def out (kd L : Nat) : Nat → List (Nat × Nat)
  | 0 => []
  | i + 1 => out kd L i ++ inn kd i L
theorem inn_nil (kd i : Nat) : ∀ {j}, j ≤ i + 1 → inn kd i j = []
  | 0, _ => rfl
  | j + 1, h => by
    unfold inn
    rw [if_neg (by omega)]
    exact inn_nil kd i (by omega)
theorem inn_yes {kd i j : Nat} (h : i < j) (hs : ¬ (kd = 2 ∧ (3 ≤ i ∨ j < 3))) : inn kd i (j + 1) = inn kd i j ++ [(i, j)] := if_pos ⟨h, hs⟩
theorem inn_no {kd i j : Nat} (hs : kd = 2 ∧ (3 ≤ i ∨ j < 3)) : inn kd i (j + 1) = inn kd i j := if_neg fun h => h.2 hs
/-- How many chains lead from one branch vertex to another, and the last of them. -/
def way (R : List (List Int)) (br : List Int) (p : Nat × Nat) : List Int × Nat := betw R (gI br p.1) (gI br p.2) R.length
/-- In memory from block B on. -/
def NewI (B : Nat) (v : Value) : Prop := ∀ b, v.ownBlock = some b → B ≤ b
def SeesLN (B : Nat) (w : World) (v : Value) (ls : List (List Int)) : Prop := ∃ ao c, v = .slice ao ls.length c ∧ ∀ (k : Nat) (l : List Int), ls[k]? = some l → ∃ b o x, ao = some ⟨b, o, none⟩ ∧ B ≤ b ∧ w.cell? ⟨b, o + k, none⟩ = some x ∧ SeesI w x l ∧ NewI B x
theorem SeesLN.sees {B : Nat} {w : World} {v : Value} {ls : List (List Int)} (h : SeesLN B w v ls) : SeesL w v ls := by
  obtain ⟨ao, c, e, h⟩ := h
  exact ⟨ao, c, e, fun k l hl => by
    obtain ⟨b, o, x, h1, _, h2, h3, _⟩ := h k l hl
    exact ⟨b, o, x, h1, h2, h3⟩⟩
theorem SeesLN.kept {B : Nat} {w w' : World} {v : Value} {ls : List (List Int)} (h : SeesLN B w v ls) (hb : ∀ b, B ≤ b → b < w.heap.size → w'.heap[b]? = w.heap[b]?) : SeesL w' v ls := by
  obtain ⟨ao, c, e, h⟩ := h
  refine ⟨ao, c, e, fun k l hl => ?_⟩
  obtain ⟨b, o, x, h1, h0, h2, ⟨a, cc, rfl, h3⟩, h4⟩ := h k l hl
  refine ⟨b, o, _, h1, (World.cell?_of_block (a := ⟨b, o + k, none⟩) (hb b h0 (block_lt_of_cell h2))).trans h2, a, cc, rfl, fun j y hj => ?_⟩
  obtain ⟨b2, o2, rfl, h5⟩ := h3 j y hj
  exact ⟨b2, o2, rfl, (World.cell?_of_block (a := ⟨b2, o2 + j, none⟩) (hb b2 (h4 b2 rfl) (block_lt_of_cell h5))).trans h5⟩
/-- What Recognise answers. -/
def Found (B : Nat) (kd : Nat) (R : List (List Int)) (br : List Int) (e : Ending) (w' : World) : Prop :=
  ((∃ p ∈ out kd br.length br.length, (way R br p).2 ≠ 1) ∧ e = .returned (.tuple #[.agg #[.int .i64 0, .slice none 0 0, .slice none 0 0], .bool false, .int .i64 0])) ∨
  ((∀ p ∈ out kd br.length br.length, (way R br p).2 = 1) ∧ ∃ v1 v2, e = .returned (.tuple #[.agg #[.int .i64 (kd : Int), v1, v2], .bool (((out kd br.length br.length).length : Int) == (R.length : Int)), .int .i64 0]) ∧
    SeesI w' v1 br ∧ NewI B v1 ∧ SeesLN B w' v2 ((out kd br.length br.length).map fun p => (way R br p).1))
def RecP (n : Int) (es : List (Int × Int)) (w : World) (e : Ending) (w' : World) : Prop :=
  ((Si.valid n es = false ∧ e = .returned (.tuple #[.agg #[.int .i64 0, .slice none 0 0, .slice none 0 0], .bool false, .int .i64 1])) ∨
  ∃ (m : Nat) (hv : Si.Val n es), n = (m : Int) ∧
    ((¬ Is5 (Si.degs n es) m (rows es hv es.length) ∧ ¬ Is33 (Si.degs n es) m (rows es hv es.length) ∧ e = .returned (.tuple #[.agg #[.int .i64 0, .slice none 0 0, .slice none 0 0], .bool false, .int .i64 0])) ∨
     (Is5 (Si.degs n es) m (rows es hv es.length) ∧ Found w.heap.size 1 (rows es hv es.length) (ofL (Si.degs n es) 4 m) e w') ∨
     (Is33 (Si.degs n es) m (rows es hv es.length) ∧ Found w.heap.size 2 (rows es hv es.length) (nearL (rows es hv es.length) (ofL (Si.degs n es) 3 m) 6 ++ farL (rows es hv es.length) (ofL (Si.degs n es) 3 m) 6) e w'))) ∧ Below w.heap.size w w'
end Ku


namespace Ku
theorem ofL_some (l : List Int) (k : Nat) : (ofL l 0 k).length + (ofL l 2 k).length + (ofL l 3 k).length + (ofL l 4 k).length ≤ k := by
  induction k with
  | zero => simp [ofL]
  | succ k ih =>
    have e : ∀ d, (ofL l d (k + 1)).length = (ofL l d k).length + if gI l k = d then 1 else 0 := fun d => by
      show (if gI l k = d then ofL l d k ++ [(k : Int)] else ofL l d k).length = _
      split <;> simp
    rw [e 0, e 2, e 3, e 4]
    repeat' split
    all_goals omega
theorem betw_ne (ls : List (List Int)) (x y : Int) (h : ∀ l ∈ ls, 1 ≤ l.length) : ∀ k, k ≤ ls.length → (betw ls x y k).2 ≠ 0 → (betw ls x y k).1 ≠ []
  | 0, _, h0 => absurd rfl h0
  | k + 1, hk, h0 => by
    obtain ⟨l, hl⟩ : ∃ l, ls[k]? = some l := ⟨_, List.getElem?_eq_getElem (by omega)⟩
    have h1 := h l (List.mem_of_getElem? hl)
    cases hh : hit l x y with
    | none =>
      rw [betw_none hl hh] at h0 ⊢
      exact betw_ne ls x y h k (by omega) h0
    | some r =>
      rw [betw_some hl hh]
      unfold hit at hh
      split at hh
      · cases hh
        exact List.ne_nil_of_length_pos h1
      · split at hh
        · cases hh
          exact List.ne_nil_of_length_pos (by rw [List.length_reverse]; exact h1)
        · cases hh
theorem SeesI.lt {w : World} {v : Value} {l : List Int} (h : SeesI w v l) (hl : l ≠ []) {b : Nat} (hb : v.ownBlock = some b) : b < w.heap.size := by
  obtain ⟨a, c, rfl, hi⟩ := h
  obtain ⟨x, hx⟩ : ∃ x, l[0]? = some x := ⟨_, List.getElem?_eq_getElem (List.length_pos_iff.2 hl)⟩
  obtain ⟨b', o, rfl, hc⟩ := hi 0 x hx
  cases hb
  exact block_lt_of_cell hc

/-- The loop's memory: the answer so far in block kb, the paths ps written. -/
structure KS (kb : Nat) (kd : Int) (bv : Value) (R : List (List Int)) (br : List Int) (w8 : World) (ps : List (Nat × Nat)) (pv : Value) (vs : List Value) (W : World) : Prop where
  low : Below kb w8 W
  box : W.heap[kb]? = some (.cells #[.int .i64 kd, bv, pv] 38 (0, 0))
  own : W.ownsRow (kb + 1) 36 1 pv ps.length vs
  len : vs.length = ps.length
  sees : ∀ (u : Nat) (x : Value) (p : Nat × Nat), vs[u]? = some x → ps[u]? = some p → SeesI W x (way R br p).1
  far : ∀ (u : Nat) (x : Value) (b : Nat), vs[u]? = some x → x.ownBlock = some b → b ≠ kb ∧ pv.ownBlock ≠ some b ∧ b < W.heap.size
  one : ∀ p ∈ ps, (way R br p).2 = 1
section
variable {kb : Nat} {kd : Int} {bv : Value} {R : List (List Int)} {br : List Int} {w8 : World} {ps : List (Nat × Nat)} {pv : Value} {vs : List Value} {W : World}
theorem KS.later {W' : World} (h : KS kb kd bv R br w8 ps pv vs W) (hb : Below W.heap.size W W') : KS kb kd bv R br w8 ps pv vs W' := by
  have hk : kb < W.heap.size := (Array.getElem?_eq_some_iff.1 h.box).1
  refine ⟨h.low.trans (hb.mono (by omega)), blk_later15 h.box hb, row_same h.own (fun g _ _ hg => hb.block g hg), h.len, fun u x p hx hp => (h.sees u x p hx hp).later hb, fun u x b hx hb' => ?_, h.one⟩
  obtain ⟨a1, a2, a3⟩ := h.far u x b hx hb'
  exact ⟨a1, a2, Nat.lt_of_lt_of_le a3 hb.size⟩
theorem KS.push {W3 : World} {ob : Obj} {x pv' : Value} {p : Nat × Nat} (h : KS kb kd bv R br w8 ps pv vs W) (hx : SeesI W x (way R br p).1) (hone : (way R br p).2 = 1) (hxb : ∀ b, x.ownBlock = some b → b ≠ kb ∧ pv.ownBlock ≠ some b ∧ b < W.heap.size)
    (ho : W3.ownsRow (kb + 1) 36 1 pv' (ps.length + 1) (vs ++ [x])) (hg : (W.alloc ob).grownBy W3 pv.ownBlock) (hat : pv'.ownBlock = pv.ownBlock ∨ pv'.ownBlock = some (W.heap.size + 1)) :
    (W3.cell? ⟨kb, 2, none⟩ = some pv ∧ W3.frozen? ⟨kb, 2, none⟩ = false) ∧ KS kb kd bv R br w8 (ps ++ [p]) pv' (vs ++ [x]) (W3.setCell ⟨kb, 2, none⟩ pv') := by
  have hk : kb < W.heap.size := (Array.getElem?_eq_some_iff.1 h.box).1
  have hpo : ∀ b, pv.ownBlock = some b → kb + 1 ≤ b := fun b hb => (World.ownsRow.lt h.own b hb).1
  have keep : ∀ b, b < W.heap.size → pv.ownBlock ≠ some b → W3.heap[b]? = W.heap[b]? := fun b hb hne => by
    rw [hg.block b (by simp; omega) (fun e => hne e.symm)]
    exact heap_alloc_old W ob hb
  have hbox3 : W3.heap[kb]? = some (.cells #[.int .i64 kd, bv, pv] 38 (0, 0)) := (keep kb hk (fun e => by have := hpo kb e; omega)).trans h.box
  obtain ⟨_, _, c2, cf⟩ := cells3_15 hbox3
  have hsz : W.heap.size ≤ W3.heap.size := by have := hg.size; simp at this; omega
  have hszS : (W3.setCell ⟨kb, 2, none⟩ pv').heap.size = W3.heap.size := by simp
  have oth : ∀ b, b ≠ kb → (W3.setCell ⟨kb, 2, none⟩ pv').heap[b]? = W3.heap[b]? := fun b hb => heap_setCell_other _ ⟨kb, 2, none⟩ b _ hb
  have hall : ∀ (u : Nat) (y : Value), (vs ++ [x])[u]? = some y → (∃ u', vs[u']? = some y ∧ u' = u ∧ u < ps.length) ∨ (y = x ∧ u = ps.length) := fun u y hy => by
    by_cases hu : u < vs.length
    · rw [List.getElem?_append_left hu] at hy
      exact .inl ⟨u, hy, rfl, by rw [← h.len]; exact hu⟩
    · rw [List.getElem?_append_right (by omega)] at hy
      have : u - vs.length = 0 := by
        have := (List.getElem?_eq_some_iff.1 hy).1
        simp at this
        omega
      rw [this] at hy
      cases hy
      exact .inr ⟨rfl, by rw [← h.len]; omega⟩
  refine ⟨⟨c2, cf 2⟩, ?_, ?_, ?_, by simp [h.len], ?_, ?_, ?_⟩
  · exact ((h.low.alloc (by omega) ob).grown hg (by simp; omega) (fun b hb => by have := hpo b hb; omega)).setCell (p := ⟨kb, 2, none⟩) (Nat.le_refl _) _
  · rw [heap_setCell_same W3 kb 2 _ _ _ hbox3]
    simp
  · rw [List.length_append]
    exact row_same ho (fun g hg1 hg2 _ => oth g (by omega))
  · intro u y q hy hq
    rcases hall u y hy with ⟨u', hu', rfl, hlt⟩ | ⟨rfl, rfl⟩
    · rw [List.getElem?_append_left hlt] at hq
      refine (h.sees u' y q hu' hq).same fun b hb => ?_
      obtain ⟨a1, a2, a3⟩ := h.far u' y b hu' hb
      rw [oth b a1, keep b a3 a2]
    · rw [List.getElem?_append_right (by omega)] at hq
      simp at hq
      subst hq
      refine hx.same fun b hb => ?_
      obtain ⟨a1, a2, a3⟩ := hxb b hb
      rw [oth b a1, keep b a3 a2]
  · intro u y b hy hb
    have key : b ≠ kb ∧ pv.ownBlock ≠ some b ∧ b < W.heap.size := by
      rcases hall u y hy with ⟨u', hu', rfl, hlt⟩ | ⟨rfl, rfl⟩
      · exact h.far u' y b hu' hb
      · exact hxb b hb
    obtain ⟨a1, a2, a3⟩ := key
    refine ⟨a1, fun e => ?_, by rw [hszS]; omega⟩
    rcases hat with e1 | e1
    · exact a2 (e1 ▸ e)
    · rw [e1] at e
      cases e
      omega
  · intro q hq
    rcases List.mem_append.1 hq with hq | hq
    · exact h.one q hq
    · cases List.mem_singleton.1 hq
      exact hone
theorem KS.seesL (h : KS kb kd bv R br w8 ps pv vs W) : SeesL W pv (ps.map fun p => (way R br p).1) := by
  rcases h.own.2 with ⟨e, h0⟩ | ⟨g, cap, cur, e, _⟩
  · refine ⟨none, 0, by rw [e, List.length_map, h0], fun k l hl => ?_⟩
    have := (List.getElem?_eq_some_iff.1 hl).1
    rw [List.length_map] at this
    omega
  · refine ⟨_, cap, by rw [e, List.length_map], fun k l hl => ?_⟩
    rw [List.getElem?_map] at hl
    obtain ⟨p, hp, rfl⟩ := Option.map_eq_some_iff.1 hl
    obtain ⟨x, hx⟩ : ∃ x, vs[k]? = some x := ⟨_, List.getElem?_eq_getElem (by rw [h.len]; exact (List.getElem?_eq_some_iff.1 hp).1)⟩
    refine ⟨g, 0, x, rfl, ?_, h.sees k x p hx hp⟩
    have := World.ownsRow.cells h.own (g := g) (by rw [e]; rfl) k x hx
    have ea : ((⟨g, 0, none⟩ : Addr).add k) = ⟨g, 0 + k, none⟩ := by
      by_cases h0 : k = 0 <;> simp [Addr.add, h0]
    rw [ea] at this
    exact this
end
end Ku

theorem results_kura3 {fn : Func} {P : Program} {p q r : Tmp} (h : fn.results = #[.cell p 38, .tmp q, .tmp r]) (hP : P = Try.prog) (tmps : Array Value) (w : World) (b : Nat) (x y z u v : Value) (hp : tmps.getD p undef = .pointer (some ⟨b, 0, none⟩)) (hq : tmps.getD q undef = u) (hr : tmps.getD r undef = v) (h0 : w.cell? ⟨b, 0, none⟩ = some x) (h1 : w.cell? ⟨b, 1, none⟩ = some y) (h2 : w.cell? ⟨b, 2, none⟩ = some z) : (results fn tmps).run P w = .ok (.tuple #[.agg #[x, y, z], u, v]) w := by
  subst hP
  have hp' : tmps[p]?.getD undef = .pointer (some ⟨b, 0, none⟩) := by simpa using hp
  have hq' : tmps[q]?.getD undef = u := by simpa using hq
  have hr' : tmps[r]?.getD undef = v := by simpa using hr
  simp [results, h, go_sem, hp', hq', hr', h0, h1, h2]

theorem set_three15 {w : World} {b : Nat} {s t u : Value} (hs : w.cell? ⟨b, 0, none⟩ = some s) (ht : w.cell? ⟨b, 1, none⟩ = some t) (hu : w.cell? ⟨b, 2, none⟩ = some u) (x y z : Value) : (((w.setCell ⟨b, 0, none⟩ x).setCell ⟨b, 1, none⟩ y).setCell ⟨b, 2, none⟩ z).cell? ⟨b, 0, none⟩ = some x ∧ (((w.setCell ⟨b, 0, none⟩ x).setCell ⟨b, 1, none⟩ y).setCell ⟨b, 2, none⟩ z).cell? ⟨b, 1, none⟩ = some y ∧ (((w.setCell ⟨b, 0, none⟩ x).setCell ⟨b, 1, none⟩ y).setCell ⟨b, 2, none⟩ z).cell? ⟨b, 2, none⟩ = some z := by
  refine ⟨?_, ?_, ?_⟩ <;> simp [go_sem, hs, ht, hu]
theorem aside15 {w : World} {b i : Nat} {s : Value} (h : w.cell? ⟨b, i, none⟩ = some s) (ob : Obj) : (w.alloc ob).cell? ⟨b, i, none⟩ = some s := by
  rw [World.cell?_of_block (w := w) (a := ⟨b, i, none⟩) (heap_alloc_old w ob (block_lt_of_cell h))]
  exact h
theorem below_set3 {B : Nat} {w W : World} {b : Nat} (h : Below B w W) (hb : B ≤ b) (x y z : Value) : Below B w (((W.setCell ⟨b, 0, none⟩ x).setCell ⟨b, 1, none⟩ y).setCell ⟨b, 2, none⟩ z) :=
  ((h.setCell (p := ⟨b, 0, none⟩) hb _).setCell (p := ⟨b, 1, none⟩) hb _).setCell (p := ⟨b, 2, none⟩) hb _

end Go.Proofs.Ytdhaaodalchpkaa
