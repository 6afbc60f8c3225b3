import Derived.Test.YtodlejemkihjnaaDoorMg28
import Derived.Laws.OwnMore
import Derived.Test.YtodlejemkihjnaaDoorMg18
import Derived.ArgAppend
import Derived.Deep.DeepAppendRoom
/-
  The lists round the vertices, written over.
-/
namespace Go.Proofs.YtodlejemkihjnaaDoor
open Go.RowKit
namespace Cm
/-- The blocks of the lists round the vertices; of the edges. -/
def SA (cs : List Ct) (b : Nat) : Prop := ∃ (k : Nat) (c : Ct), cs[k]? = some c ∧ c.av.ownBlock = some b
def SE (cs : List Ct) (b : Nat) : Prop := ∃ (k : Nat) (c : Ct), cs[k]? = some c ∧ c.ev.ownBlock = some b
/-- At place i of the j-th a list of its own stands: j alone. -/
def Put (Y wr : World) (j : Nat) (c : Ct) (i : Nat) : Prop := ∃ ga gb, c.av.ownBlock = some ga ∧ wr.cell? ⟨ga, i, none⟩ = some (.slice (some ⟨gb, 0, none⟩) 1 1) ∧ wr.heap[gb]? = some (.cells #[.int .i64 (j : Int)] 3 (0, 0)) ∧ Y.heap.size ≤ gb
structure Cw (Y : World) (cs : List Ct) (p : Nat) (D : Nat → Nat → Prop) (wr : World) : Prop where
  wrote : Wrote (SA cs) Y wr
  own : ∀ (j : Nat) (c : Ct), cs[j]? = some c → ∃ xs, wr.ownsRow c.lo 39 1 c.av p xs
  put : ∀ (j : Nat) (c : Ct) (i : Nat), cs[j]? = some c → D j i → Put Y wr j c i
section
variable {ar : List (List Int)} {es : List (Int × Int)} {Y wr w' : World} {cs : List Ct} {p : Nat} {D E : Nat → Nat → Prop}
theorem Six.lt (h : Six ar es Y cs) {b : Nat} (hb : SA cs b ∨ SE cs b) : b < Y.heap.size := by
  rcases hb with ⟨k, c, hc, hb⟩ | ⟨k, c, hc, hb⟩
  · have := ((h.at' k c hc).top b (.inl hb)).2
    have := (h.at' k c hc).sz
    omega
  · have := ((h.at' k c hc).top b (.inr (.inr hb))).2
    have := (h.at' k c hc).sz
    omega
theorem Six.apart (h : Six ar es Y cs) {j k : Nat} {c d : Ct} {b : Nat} (hjk : j ≠ k) (hc : cs[j]? = some c) (hd : cs[k]? = some d) (hb : c.has b) : ¬ d.has b := fun hb' => by
  have h1 := (h.at' j c hc).top b hb
  have h2 := (h.at' k d hd).top b hb'
  rcases Nat.lt_or_gt_of_ne hjk with hl | hl
  · have := h.far j k c d hl hc hd; omega
  · have := h.far k j d c hl hd hc; omega
theorem Six.other (h : Six ar es Y cs) {b : Nat} {arr : Array Value} {t : TypeId} {fr : Nat × Nat} (hb : Y.heap[b]? = some (.cells arr t fr)) (h1 : t ≠ 3) (h2 : t ≠ 39) (h3 : t ≠ 41) : ¬ SA cs b ∧ ¬ SE cs b :=
  ⟨fun ⟨k, c, hc, e⟩ => (h.at' k c hc).other hb h1 h2 h3 (.inl e), fun ⟨k, c, hc, e⟩ => (h.at' k c hc).other hb h1 h2 h3 (.inr (.inr e))⟩
theorem Put.kept {j i : Nat} {c : Ct} (h : Put Y wr j c i) (hb : ∀ b, (c.av.ownBlock = some b ∨ Y.heap.size ≤ b) → b < wr.heap.size → w'.heap[b]? = wr.heap[b]?) : Put Y w' j c i := by
  obtain ⟨ga, gb, h1, h2, h3, h4⟩ := h
  have hl := block_lt_of_cell h2
  exact ⟨ga, gb, h1, by rw [World.cell?_of_block (w := wr) (hb ga (.inl h1) hl)]; exact h2, (hb gb (.inr h4) (lt_of_block h3)).trans h3, h4⟩
theorem Cw.start (h : Six ar es Y cs) (hp : ar.length = p) (hD : ∀ j i, ¬ D j i) : Cw Y cs p D Y :=
  ⟨Wrote.refl _ _, fun j c hc => ⟨c.vs, by rw [← hp]; exact (h.at' j c hc).rows.outer⟩, fun j c i _ hd => absurd hd (hD j i)⟩
theorem Cw.mono (h : Cw Y cs p D wr) (hE : ∀ j c i, cs[j]? = some c → E j i → D j i) : Cw Y cs p E wr := ⟨h.wrote, h.own, fun j c i hc he => h.put j c i hc (hE j c i hc he)⟩
theorem Cw.later (h : Cw Y cs p D wr) (hb : Below wr.heap.size wr w') : Cw Y cs p D w' :=
  ⟨h.wrote.later hb, fun j c hc => by obtain ⟨xs, hx⟩ := h.own j c hc; exact ⟨xs, own_below17 hx hb⟩, fun j c i hc hd => (h.put j c i hc hd).kept fun b _ hl => hb.block b hl⟩
/-- One list is put. -/
theorem Cw.step (hs : Six ar es Y cs) (h : Cw Y cs p D wr) {k i ga ca : Nat} {c : Ct} (hc : cs[k]? = some c) (hv : c.av = .slice (some ⟨ga, 0, none⟩) p ca) (hi : i < p) :
    Cw Y cs p (fun j t => D j t ∨ (j = k ∧ t = i)) ((wr.alloc (.cells #[.int .i64 (k : Int)] 3)).setCell ⟨ga, i, none⟩ (.slice (some ⟨wr.heap.size, 0, none⟩) 1 1)) := by
  have hga : c.av.ownBlock = some ga := by rw [hv]; rfl
  have hgY : ga < Y.heap.size := hs.lt (.inl ⟨k, c, hc, hga⟩)
  have hYw := h.wrote.size
  have hn := heap_alloc_new wr (.cells #[.int .i64 (k : Int)] 3)
  have hne : ga ≠ wr.heap.size := by omega
  have hoth : ∀ b, b ≠ ga → ((wr.alloc (.cells #[.int .i64 (k : Int)] 3)).setCell ⟨ga, i, none⟩ (.slice (some ⟨wr.heap.size, 0, none⟩) 1 1)).heap[b]? = (wr.alloc (.cells #[.int .i64 (k : Int)] 3)).heap[b]? := fun b hb => heap_setCell_other _ ⟨ga, i, none⟩ b _ hb
  have h1 := Cw.later h ((Below.refl wr.heap.size wr).alloc (Nat.le_refl _) (.cells #[.int .i64 (k : Int)] 3))
  obtain ⟨xs, hx⟩ := h1.own k c hc
  rw [hv] at hx
  have hxl : xs.length = p := by simpa using hx.1
  have hcell : (wr.alloc (.cells #[.int .i64 (k : Int)] 3)).cell? ⟨ga, i, none⟩ = some (xs[i]'(by omega)) := by
    have := World.ownsRow.cells hx (g := ga) rfl i (xs[i]'(by omega)) (List.getElem?_eq_getElem (by omega))
    rwa [addrE] at this
  refine ⟨h1.wrote.setCell ⟨k, c, hc, hga⟩ _, fun j d hd => ?_, fun j d t hd hD => ?_⟩
  · by_cases hj : j = k
    · subst hj
      rw [hc] at hd
      cases hd
      rw [hv]
      exact ⟨_, (World.ownsRow.stored hx i _).1⟩
    · obtain ⟨ys, hy⟩ := h1.own j d hd
      exact ⟨ys, row_same hy fun b hb _ _ => hoth b fun e => hs.apart hj hd hc (.inl hb) (.inl (by rw [e]; exact hga))⟩
  · by_cases hnew : j = k ∧ t = i
    · obtain ⟨rfl, rfl⟩ := hnew
      rw [hc] at hd
      cases hd
      exact ⟨ga, wr.heap.size, hga, World.cell?_setCell_same _ _ _ hcell, (hoth _ (fun e => hne e.symm)).trans hn, hYw⟩
    · have hD' : D j t := by
        rcases hD with h | h
        · exact h
        · exact absurd h hnew
      obtain ⟨ga', gb, e1, e2, e3, e4⟩ := h1.put j d t hd hD'
      refine ⟨ga', gb, e1, ?_, (hoth gb (by omega)).trans e3, e4⟩
      by_cases hj : j = k
      · subst hj
        rw [hc] at hd
        cases hd
        rw [hga] at e1
        cases e1
        have hti : t ≠ i := fun e => hnew ⟨rfl, e⟩
        have e9 : (⟨ga, i, none⟩ : Addr) ≠ ⟨ga, t, none⟩ := fun e => hti (by cases e; rfl)
        rw [World.cell?_setCell_other (h := e9)]
        exact e2
      · rw [World.cell?_of_block (w := wr.alloc (.cells #[.int .i64 (k : Int)] 3)) (hoth ga' fun e => hs.apart hj hd hc (.inl e1) (.inl (by rw [e]; exact hga)))]
        exact e2
end
end Cm
end Go.Proofs.YtodlejemkihjnaaDoor

/-
  The edges, written over.
-/
namespace Go.Proofs.YtodlejemkihjnaaDoor
open Go.RowKit
theorem flatE_set17 : ∀ (ps : List (Int × Int)) (j : Nat) (p : Int × Int), flatE (ps.set j p) = ((flatE ps).set (j * 2) (.int .i64 p.1)).set (j * 2 + 1) (.int .i64 p.2)
  | [], j, p => by simp [flatE]
  | q :: ps, 0, p => by simp [flatE]
  | q :: ps, j + 1, p => by
    have ih := flatE_set17 ps j p
    have e : (j + 1) * 2 = j * 2 + 1 + 1 := by omega
    rw [e]
    simp only [flatE, List.set_cons_succ, List.flatMap_cons, List.cons_append, List.nil_append] at ih ⊢
    rw [ih]
theorem flatE_at17 : ∀ (ps : List (Int × Int)) (j : Nat) (p : Int × Int), ps[j]? = some p → (flatE ps)[j * 2]? = some (.int .i64 p.1) ∧ (flatE ps)[j * 2 + 1]? = some (.int .i64 p.2)
  | [], j, p, h => by simp at h
  | q :: ps, 0, p, h => by
    simp at h
    subst h
    simp [flatE]
  | q :: ps, j + 1, p, h => by
    simp at h
    have := flatE_at17 ps j p h
    have e : (j + 1) * 2 = j * 2 + 1 + 1 := by omega
    rw [e]
    simpa [flatE] using this
namespace Cm
/-- Written over, as the law does it. -/
def ovr (j m : Nat) : List (Int × Int) := (List.range m).map fun (i : Nat) => (-(j : Int), (i : Int))
theorem ovr_at {j m i : Nat} (h : i < m) : (ovr j m)[i]? = some (-(j : Int), (i : Int)) := by
  unfold ovr
  rw [List.getElem?_map, List.getElem?_range h]
  rfl
theorem ovr_length (j m : Nat) : (ovr j m).length = m := by simp [ovr]
structure Dw (Z : World) (cs : List Ct) (q : Nat) (D : Nat → Nat → Prop) (wr : World) : Prop where
  wrote : Wrote (SE cs) Z wr
  own : ∀ (j : Nat) (c : Ct), cs[j]? = some c → ∃ l, l.length = q ∧ OwnE wr c.lo c.ev l ∧ ∀ t, t < q → D j t → l[t]? = some (-(j : Int), (t : Int))
section
variable {ar : List (List Int)} {es : List (Int × Int)} {Y Z wr w' : World} {cs : List Ct} {p q : Nat} {D E : Nat → Nat → Prop}
/-- The lists of edges are apart. -/
def ApartE (cs : List Ct) : Prop := ∀ (j k : Nat) (c d : Ct) (b : Nat), j ≠ k → cs[j]? = some c → cs[k]? = some d → c.ev.ownBlock = some b → d.ev.ownBlock ≠ some b
theorem Six.apartE (h : Six ar es Y cs) : ApartE cs := fun _ _ _ _ _ hjk hc hd hb hb' => h.apart hjk hc hd (.inr (.inr hb)) (.inr (.inr hb'))
theorem Six.evkept (hs : Six ar es Y cs) (hw : Wrote (SA cs) Y Z) {j : Nat} {c : Ct} (hc : cs[j]? = some c) : OwnE Z c.lo c.ev es := by
  have h := (hs.at' j c hc).edges
  refine row_same h fun b hb _ hl => hw.block b hl ?_
  rintro ⟨k, d, hd, e⟩
  by_cases hjk : j = k
  · subst hjk
    rw [hc] at hd
    cases hd
    rcases h.2 with ⟨h0, -⟩ | ⟨g, cap, cur, h0, -, hh, -⟩
    · rw [h0] at hb
      cases hb
    · rw [h0] at hb
      cases hb
      exact own_ne (hs.at' j c hc).rows.outer hh (by decide) e
  · exact hs.apart hjk hc hd (.inr (.inr hb)) (.inl e)
theorem Dw.start (h : ∀ (j : Nat) (c : Ct), cs[j]? = some c → OwnE Z c.lo c.ev es) (hq : es.length = q) (hD : ∀ j i, ¬ D j i) : Dw Z cs q D Z := ⟨Wrote.refl _ _, fun j c hc => ⟨es, hq, h j c hc, fun t _ h => absurd h (hD j t)⟩⟩
theorem Dw.mono (h : Dw Z cs q D wr) (hE : ∀ j c t, cs[j]? = some c → t < q → E j t → D j t) : Dw Z cs q E wr := ⟨h.wrote, fun j c hc => by obtain ⟨l, h1, h2, h3⟩ := h.own j c hc; exact ⟨l, h1, h2, fun t ht he => h3 t ht (hE j c t hc ht he)⟩⟩
/-- One edge is written over. -/
theorem Dw.step (ha : ApartE cs) (h : Dw Z cs q D wr) {k i ge ca : Nat} {c : Ct} (hc : cs[k]? = some c) (hv : c.ev = .slice (some ⟨ge, 0, none⟩) q ca) (hi : i < q) :
    (∃ y, wr.cell? ⟨ge, i * 2, none⟩ = some y) ∧ wr.frozen? ⟨ge, i * 2, none⟩ = false ∧ (∃ y, (wr.setCell ⟨ge, i * 2, none⟩ (.int .i64 (-(k : Int)))).cell? ⟨ge, i * 2 + 1, none⟩ = some y) ∧ (wr.setCell ⟨ge, i * 2, none⟩ (.int .i64 (-(k : Int)))).frozen? ⟨ge, i * 2 + 1, none⟩ = false ∧
    Dw Z cs q (fun j t => D j t ∨ (j = k ∧ t = i)) ((wr.setCell ⟨ge, i * 2, none⟩ (.int .i64 (-(k : Int)))).setCell ⟨ge, i * 2 + 1, none⟩ (.int .i64 (i : Int))) := by
  have hge : c.ev.ownBlock = some ge := by rw [hv]; rfl
  obtain ⟨l, hl, ho, hD⟩ := h.own k c hc
  have ho' := ho
  unfold OwnE at ho
  rw [hv, hl] at ho
  obtain ⟨y, hy⟩ : ∃ y, l[i]? = some y := ⟨_, List.getElem?_eq_getElem (by omega)⟩
  obtain ⟨f0, f1⟩ := flatE_at17 l i y hy
  have hcl := World.ownsRow.cells ho (g := ge) rfl
  simp only [addrE] at hcl
  have s1 := (ho.stored (i * 2) (.int .i64 (-(k : Int)))).1
  have hc1 := World.ownsRow.cells s1 (g := ge) rfl
  simp only [addrE] at hc1
  have s2 := (s1.stored (i * 2 + 1) (.int .i64 (i : Int))).1
  have hoth : ∀ b, b ≠ ge → ((wr.setCell ⟨ge, i * 2, none⟩ (.int .i64 (-(k : Int)))).setCell ⟨ge, i * 2 + 1, none⟩ (.int .i64 (i : Int))).heap[b]? = wr.heap[b]? := fun b hb => by
    rw [heap_setCell_other _ ⟨ge, i * 2 + 1, none⟩ b _ hb, heap_setCell_other _ ⟨ge, i * 2, none⟩ b _ hb]
  refine ⟨⟨_, hcl _ _ f0⟩, ho.frozenAt _, ⟨_, hc1 _ _ (by rw [List.getElem?_set, if_neg (by omega)]; exact f1)⟩, s1.frozenAt _, ⟨(h.wrote.setCell ⟨k, c, hc, hge⟩ _).setCell ⟨k, c, hc, hge⟩ _, fun j d hd => ?_⟩⟩
  by_cases hj : j = k
  · subst hj
    rw [hc] at hd
    cases hd
    refine ⟨l.set i (-(j : Int), (i : Int)), by rw [List.length_set]; exact hl, ?_, fun t ht hDt => ?_⟩
    · unfold OwnE
      rw [List.length_set, hl, hv, flatE_set17]
      exact s2
    · rw [List.getElem?_set]
      by_cases e : i = t
      · subst e
        rw [if_pos rfl, if_pos (by omega)]
      · rw [if_neg e]
        rcases hDt with h | ⟨-, h⟩
        · exact hD t ht h
        · exact absurd h.symm e
  · obtain ⟨m, hm, hom, hDm⟩ := h.own j d hd
    refine ⟨m, hm, row_same hom fun b hb _ _ => hoth b fun e => ha j k d c b hj hd hc hb (by rw [e]; exact hge), fun t ht hDt => hDm t ht ?_⟩
    rcases hDt with h | ⟨h, -⟩
    · exact h
    · exact absurd h hj
theorem Dw.all (h : Dw Z cs q (fun _ _ => True) wr) {j : Nat} {c : Ct} (hc : cs[j]? = some c) : OwnE wr c.lo c.ev (ovr j q) := by
  obtain ⟨l, h1, h2, h3⟩ := h.own j c hc
  have : l = ovr j q := List.ext_getElem? fun t => by
    by_cases ht : t < q
    · rw [h3 t ht trivial, ovr_at ht]
    · rw [List.getElem?_eq_none (by omega), List.getElem?_eq_none (by rw [ovr_length]; omega)]
  rwa [this] at h2
end
end Cm
end Go.Proofs.YtodlejemkihjnaaDoor

/-
  The edges, grown.
-/
namespace Go.Proofs.YtodlejemkihjnaaDoor
open Go.RowKit

theorem grown_anyE17 {w w' : World} (h : w.grownBy w' none) (r : Option Nat) : w.grownBy w' r := ⟨h.os, h.tape, h.output, h.size, fun k hk _ => h.block k hk (by simp)⟩

/-- The list that a longer one in its block began with. -/
theorem own_prefixE17 {w : World} {B g p i c : Nat} {xs ys : List Value} (h : w.ownsRow B 41 2 (.slice (some ⟨g, 0, none⟩) (p + i) c) (p + i) (xs ++ ys)) (hx : xs.length = p * 2) : w.ownsRow B 41 2 (.slice (some ⟨g, 0, none⟩) p c) p xs := by
  rcases h.2 with ⟨h', _⟩ | ⟨g', cap, cur, e, hB, hh, hc, hm, hs, ht⟩
  · cases h'
  · cases e
    refine ⟨by omega, .inr ⟨g, c, cur, rfl, hB, hh, by omega, hm, hs, ?_⟩⟩
    have e1 : cur.toList.take (p * 2) = (cur.toList.take ((p + i) * 2)).take (p * 2) := by rw [List.take_take]; congr 1; omega
    rw [e1, ht, List.take_append_of_le_length (by omega), List.take_of_length_le (by omega)]

/-- 'append(v, z)' of edges of one's own: the list it began with reads as before. -/
theorem wpList_keepE17 {W : World} {ops : Array Oper} {rest : List Oper} {o : Oper} {a : Act} {Q : Exit → Act → World → Prop} (hgd : o.guard = none) (s x : Operand)
    (ho : o.op = .call { callee := .builtin .append, args := #[s, x], argTypes := #[23, 23] }) (B p : Nat) (ao : Option Addr) (c : Nat) (xs : List Value) (y z : Int)
    (hs : a.eval s = .slice ao p c) (hown : W.ownsRow B 41 2 (.slice ao p c) p xs) (ad : Addr) (hx : a.eval x = .slice (some ad) 1 1) (hnews : ∀ j u, [Value.int .i64 y, .int .i64 z][j]? = some u → W.cell? (ad.add j) = some u) (hp : p ≤ 8796093022000) (hB : B ≤ W.heap.size)
    (h : ∀ g' c' w', w'.ownsRow B 41 2 (.slice (some ⟨g', 0, none⟩) (p + 1) c') (p + 1) (xs ++ [.int .i64 y, .int .i64 z]) → w'.ownsRow B 41 2 (.slice ao p c) p xs → W.grownBy w' (Value.slice ao p c).ownBlock → (((Value.slice ao p c).ownBlock = some g' ∧ c' = c) ∨ W.heap.size ≤ g') → g' < w'.heap.size → wpList Tryd.prog ops Q rest (a.put o.dst (.slice (some ⟨g', 0, none⟩) (p + 1) c')) w') :
    wpList Tryd.prog ops Q (o :: rest) a W := by
  obtain ⟨i0, hi, hz0, hz1, hz2⟩ := info_parts Tryd.infoEdge
  have hxl : xs.length = p * 2 := hown.1
  by_cases hroom : p + 1 ≤ c
  · obtain ⟨g, hg⟩ : ∃ g, ao = some ⟨g, 0, none⟩ := by
      rcases hown.2 with ⟨h', _⟩ | ⟨g, cap, cur, e, _⟩
      · cases h'; omega
      · cases e; exact ⟨g, rfl⟩
    subst hg
    refine wpList_append_own_spare (w := W) hgd s x 23 ho B 41 i0 2 Tryd.underlying23 hi hz1 g p c xs hs hown ad 1 1 [.int .i64 y, .int .i64 z] hx rfl hnews (by simp [Value.oneCell']) hroom ?_
    intro w' h2 h3
    exact h g c w' h2 (own_prefixE17 h2 hxl) h3 (.inl ⟨rfl, rfl⟩) (World.ownsRow.lt h2 g rfl).2
  · refine wpList_append_grows W hgd s x 23 ho 41 i0 (.agg #[.int .i64 0, .int .i64 0]) 2 16 Tryd.underlying23 hi hz0 hz1 hz2 rfl (by decide) ao p c xs hs (fun e => ?_) (by omega) (fun b hb j u hj => ?_) ad 1 1 [.int .i64 y, .int .i64 z] hx rfl hnews (by simp [Value.oneCell']) (by omega) (by unfold maxLen; omega) (by omega) ?_
    · rcases hown.2 with ⟨h', h0⟩ | ⟨g, cap, cur, e', _⟩
      · cases h'; exact ⟨h0, rfl⟩
      · rw [e] at e'; cases e'
    · rcases hown.2 with ⟨h', h0⟩ | ⟨g, cap, cur, e', _⟩
      · rw [hb] at h'; cases h'
      · rw [hb] at e'
        cases e'
        have := World.ownsRow.cells hown (g := g) (by rw [hb]; rfl) j u hj
        exact this
    · intro v' w' h2 h3
      obtain ⟨g', c', rfl⟩ := own_succ h2
      have hlt := World.ownsRow.lt h2 g' rfl
      have h4 : w'.ownsRow B 41 2 (.slice (some ⟨g', 0, none⟩) (p + 1) c') (p + 1) (xs ++ [.int .i64 y, .int .i64 z]) := by
        rcases h2.2 with h' | ⟨g, cap, cur, e1, hgB, hr⟩
        · exact ⟨h2.1, .inl h'⟩
        · exact ⟨h2.1, .inr ⟨g, cap, cur, e1, Nat.le_trans hB hgB, hr⟩⟩
      exact h g' c' w' h4 (hown.kept h3 (by cases (Value.slice ao p c).ownBlock <;> simp)) (grown_anyE17 h3 _) (.inr hlt.1) hlt.2

namespace Cm
/-- The edges, and what was grown of the first k, beside each other. -/
structure Ew (V : World) (cs : List Ct) (q : Nat) (gv : Value) (gs : List Value) (k : Nat) (U : World) : Prop where
  wrote : Wrote (SE cs) V U
  own : ∀ (j : Nat) (c : Ct), cs[j]? = some c → OwnE U c.lo c.ev (ovr j q)
  glen : gs.length = k
  gout : U.ownsRow V.heap.size 23 1 gv k gs
  grow : ∀ (j : Nat) (y : Value), gs[j]? = some y → OwnE U 0 y (ovr j q ++ [((j : Int), -77)])
  from_ : ∀ (j : Nat) (y : Value) (b : Nat), gs[j]? = some y → y.ownBlock = some b → (∃ c, cs[j]? = some c ∧ c.ev.ownBlock = some b) ∨ V.heap.size ≤ b
section
variable {V U U' : World} {cs : List Ct} {q k : Nat} {gv : Value} {gs : List Value}
theorem Ew.later (h : Ew V cs q gv gs k U) (hb : Below U.heap.size U U') : Ew V cs q gv gs k U' :=
  ⟨h.wrote.later hb, fun j c hc => (h.own j c hc).below hb (Nat.le_refl _), h.glen, own_below17 h.gout hb, fun j y hy => (h.grow j y hy).below hb (Nat.le_refl _), h.from_⟩
theorem Ew.start {Z : World} (h : Dw Z cs q (fun _ _ => True) V) : Ew V cs q (.slice none 0 0) [] 0 V :=
  ⟨Wrote.refl _ _, fun _ _ hc => h.all hc, rfl, World.ownsRow_nil _ _ _ _, fun j y hy => by simp at hy, fun j y b hy => by simp at hy⟩
/-- Edges are put behind the k-th list, or behind what was made of it since S1. -/
theorem Ew.after (h : Ew V cs q gv gs k U) (ha : ApartE cs) (hlt : ∀ b, SE cs b → b < V.heap.size) {c : Ct} (hc : cs[k]? = some c) {r : Option Nat} (hg : U.grownBy U' r) {S1 : Nat} (hS : V.heap.size ≤ S1) (hgv : ∀ b, gv.ownBlock = some b → b < S1) (hgs : ∀ (j : Nat) (y : Value) (b : Nat), gs[j]? = some y → y.ownBlock = some b → b < S1)
    (hr : ∀ b, r = some b → (c.ev.ownBlock = some b ∨ S1 ≤ b)) (hrow : OwnE U' c.lo c.ev (ovr k q)) : Ew V cs q gv gs k U' := by
  have hk : ∀ b, SE cs b → c.ev.ownBlock ≠ some b → r ≠ some b := fun b hb hne e => by
    rcases hr b e with h1 | h1
    · exact hne h1
    · have := hlt b hb; omega
  refine ⟨⟨hg.os.trans h.wrote.os, hg.tape.trans h.wrote.tape, hg.output.trans h.wrote.output, Nat.le_trans h.wrote.size hg.size, fun b hb hn => (hg.block b (Nat.lt_of_lt_of_le hb h.wrote.size) fun e => ?_).trans (h.wrote.block b hb hn)⟩, fun j d hd => ?_, h.glen, row_same h.gout fun b hb hB hl => hg.block b hl fun e => ?_, fun j y hy => row_same (h.grow j y hy) fun b hb _ hl => hg.block b hl fun e => ?_, h.from_⟩
  · rcases hr b e.symm with h1 | h1
    · exact hn ⟨k, c, hc, h1⟩
    · omega
  · by_cases hj : j = k
    · subst hj
      rw [hc] at hd
      cases hd
      exact hrow
    · exact row_same (h.own j d hd) fun b hb _ hl => hg.block b hl fun e => hk b ⟨j, d, hd, hb⟩ (fun e' => ha j k d c b hj hd hc hb e') e.symm
  · rcases hr b e.symm with h1 | h1
    · have := hlt b ⟨k, c, hc, h1⟩; omega
    · have := hgv b hb; omega
  · have hjk : j < k := by have := (List.getElem?_eq_some_iff.1 hy).1; rw [h.glen] at this; exact this
    rcases h.from_ j y b hy hb with ⟨d, hd, hb'⟩ | hb'
    · exact hk b ⟨j, d, hd, hb'⟩ (fun e' => ha j k d c b (by omega) hd hc hb' e') e.symm
    · rcases hr b e.symm with h1 | h1
      · have := hlt b ⟨k, c, hc, h1⟩; omega
      · have := hgs j y b hy hb; omega
/-- What was grown of the k-th is put behind the others. -/
theorem Ew.next (h : Ew V cs q gv gs k U) {y gv' : Value} (hy : OwnE U 0 y (ovr k q ++ [((k : Int), -77)])) (hyb : ∀ b, y.ownBlock = some b → (∃ c, cs[k]? = some c ∧ c.ev.ownBlock = some b) ∨ V.heap.size ≤ b)
    {o : Obj} (hown : U'.ownsRow V.heap.size 23 1 gv' (k + 1) (gs ++ [y])) (hg : (U.alloc o).grownBy U' gv.ownBlock) : Ew V cs q gv' (gs ++ [y]) (k + 1) U' := by
  have h1 := h.later ((Below.refl U.heap.size U).alloc (Nat.le_refl _) o)
  have hge : ∀ b, gv.ownBlock = some b → V.heap.size ≤ b := fun b hb => (World.ownsRow.lt h.gout b hb).1
  have hkeep : ∀ {B : Nat} {v : Value} {l : List (Int × Int)}, OwnE (U.alloc o) B v l → OwnE U' B v l := fun hv => World.ownsRow.kept hv hg (types_apart17 hv h1.gout (by decide))
  have hy1 : OwnE (U.alloc o) 0 y (ovr k q ++ [((k : Int), -77)]) := hy.below ((Below.refl U.heap.size U).alloc (Nat.le_refl _) o) (Nat.le_refl _)
  refine ⟨⟨hg.os.trans h1.wrote.os, hg.tape.trans h1.wrote.tape, hg.output.trans h1.wrote.output, Nat.le_trans h1.wrote.size hg.size, fun b hb hn => (hg.block b (Nat.lt_of_lt_of_le hb h1.wrote.size) fun e => ?_).trans (h1.wrote.block b hb hn)⟩, fun j d hd => hkeep (h1.own j d hd), by simp [h.glen], hown, fun j z hz => ?_, fun j z b hz hb => ?_⟩
  · have := hge b e.symm; omega
  · by_cases hj : j < k
    · rw [List.getElem?_append_left (by rw [h.glen]; exact hj)] at hz
      exact hkeep (h1.grow j z hz)
    · have hjl := (List.getElem?_eq_some_iff.1 hz).1
      simp [h.glen] at hjl
      obtain rfl : j = k := by omega
      rw [List.getElem?_append_right (by rw [h.glen]; exact Nat.le_refl _), h.glen, Nat.sub_self] at hz
      cases hz
      exact hkeep hy1
  · by_cases hj : j < k
    · rw [List.getElem?_append_left (by rw [h.glen]; exact hj)] at hz
      exact h.from_ j z b hz hb
    · have hjl := (List.getElem?_eq_some_iff.1 hz).1
      simp [h.glen] at hjl
      obtain rfl : j = k := by omega
      rw [List.getElem?_append_right (by rw [h.glen]; exact Nat.le_refl _), h.glen, Nat.sub_self] at hz
      cases hz
      exact hyb b hb
theorem Ew.glt (h : Ew V cs q gv gs k U) : ∀ b, gv.ownBlock = some b → b < U.heap.size := fun b hb => (World.ownsRow.lt h.gout b hb).2
theorem Ew.gslt (h : Ew V cs q gv gs k U) : ∀ (j : Nat) (y : Value) (b : Nat), gs[j]? = some y → y.ownBlock = some b → b < U.heap.size := fun j y b hy hb => (World.ownsRow.lt (h.grow j y hy) b hb).2
end
end Cm
end Go.Proofs.YtodlejemkihjnaaDoor

/-
  All lists of the six, one behind the other.
-/
namespace Go.Proofs.YtodlejemkihjnaaDoor
open Go.RowKit

theorem flat_at17 {α β : Type} (f : α → List β) (p : Nat) : ∀ (cs : List α) (t : Nat) (x : β), (∀ c ∈ cs, (f c).length = p) → (cs.flatMap f)[t]? = some x → ∃ k c i, cs[k]? = some c ∧ i < p ∧ (f c)[i]? = some x ∧ t = k * p + i
  | [], t, x, _, h => by simp at h
  | c :: r, t, x, hl, h => by
    have hc := hl c (by simp)
    rw [List.flatMap_cons] at h
    by_cases ht : t < p
    · rw [List.getElem?_append_left (by omega)] at h
      exact ⟨0, c, t, rfl, ht, h, by omega⟩
    · rw [List.getElem?_append_right (by omega), hc] at h
      obtain ⟨k, d, i, h1, h2, h3, h4⟩ := flat_at17 f p r (t - p) x (fun d hd => hl d (by simp [hd])) h
      exact ⟨k + 1, d, i, by simpa using h1, h2, h3, by rw [Nat.succ_mul]; omega⟩
theorem flat_get17 {α β : Type} (f : α → List β) (p : Nat) : ∀ (cs : List α) (k i : Nat) (c : α), (∀ c ∈ cs, (f c).length = p) → cs[k]? = some c → i < p → (cs.flatMap f)[k * p + i]? = (f c)[i]?
  | [], k, i, c, _, h, _ => by simp at h
  | d :: r, 0, i, c, hl, h, hi => by
    have hc := hl d (by simp)
    simp at h
    subst h
    rw [List.flatMap_cons, Nat.zero_mul, Nat.zero_add, List.getElem?_append_left (by omega)]
  | d :: r, k + 1, i, c, hl, h, hi => by
    have hc := hl d (by simp)
    rw [List.flatMap_cons, Nat.succ_mul, List.getElem?_append_right (by omega), hc, show k * p + p + i - p = k * p + i by omega]
    exact flat_get17 f p r k i c (fun d hd => hl d (by simp [hd])) (by simpa using h) hi
theorem flat_len17 {α β : Type} (f : α → List β) (p : Nat) : ∀ (cs : List α), (∀ c ∈ cs, (f c).length = p) → (cs.flatMap f).length = cs.length * p
  | [], _ => by simp
  | c :: r, hl => by
    rw [List.flatMap_cons, List.length_append, hl c (by simp), flat_len17 f p r fun d hd => hl d (by simp [hd]), List.length_cons, Nat.succ_mul]
    omega

namespace Cm
section
variable {ar : List (List Int)} {es : List (Int × Int)} {Y U : World} {cs : List Ct}
theorem Six.vlen (h : Six ar es Y cs) {p : Nat} (hp : ar.length = p) : ∀ c ∈ cs, c.vs.length = p := fun c hc => by
  obtain ⟨k, hk⟩ := List.getElem?_of_mem hc
  rw [← hp]
  exact (h.at' k c hk).rows.len
theorem Six.rowsAll (h : Six ar es Y cs) {S : Nat} (hsx : ∀ b, SA cs b ∨ SE cs b → b < S) {p : Nat} (hp : ar.length = p) {va : Value} (hall : Y.ownsRow S 39 1 va (cs.length * p) (cs.flatMap fun c => c.vs)) (hk : ∀ b, b < Y.heap.size → ¬ SA cs b → ¬ SE cs b → U.heap[b]? = Y.heap[b]?) :
    RowsZ U 0 va (cs.flatMap fun c => c.vs) (cs.flatMap fun _ => ar) := by
  have hv := h.vlen hp
  have ha : ∀ c ∈ cs, ((fun _ => ar) c : List (List Int)).length = p := fun _ _ => hp
  have hl : (cs.flatMap fun _ => ar).length = cs.length * p := flat_len17 (fun _ => ar) p cs ha
  have hY : ∀ {t : Nat} {x : Value}, (cs.flatMap fun c => c.vs)[t]? = some x → ∃ k c i l, cs[k]? = some c ∧ i < p ∧ c.vs[i]? = some x ∧ t = k * p + i ∧ ar[i]? = some l ∧ OwnZ Y c.lo x l := fun {t x} hx => by
    obtain ⟨k, c, i, h1, h2, h3, h4⟩ := flat_at17 (fun c : Ct => c.vs) p cs t x hv hx
    obtain ⟨l, hl'⟩ : ∃ l, ar[i]? = some l := ⟨_, List.getElem?_eq_getElem (by omega)⟩
    exact ⟨k, c, i, l, h1, h2, h3, h4, hl', (h.at' k c h1).rows.row i x l h3 hl'⟩
  refine ⟨?_, ?_, fun t x l hx hl' => ?_, fun t u x y b htu hx hy hb => ?_, fun t x b hx hb => ?_⟩
  · rw [hl]
    exact flat_len17 (fun c : Ct => c.vs) p cs hv
  · rw [hl]
    have h1 : U.ownsRow S 39 1 va (cs.length * p) (cs.flatMap fun c => c.vs) := row_same hall fun b hb h2 h3 => hk b h3 (fun hs => by have := hsx b (.inl hs); omega) (fun hs => by have := hsx b (.inr hs); omega)
    rcases h1.2 with h2 | ⟨g, c, cur, e, _, h3⟩
    · exact ⟨h1.1, .inl h2⟩
    · exact ⟨h1.1, .inr ⟨g, c, cur, e, Nat.zero_le _, h3⟩⟩
  · obtain ⟨k, c, i, l', h1, h2, h3, h4, h5, h6⟩ := hY hx
    have e : l' = l := by
      have := flat_get17 (fun _ : Ct => ar) p cs k i c ha h1 h2
      rw [← h4, hl', h5] at this
      exact (Option.some.inj this).symm
    subst e
    have h7 : OwnZ U c.lo x l' := h6.same fun b hb hlt => hk b hlt (fun ⟨j, d, hd, hs⟩ => ?_) (fun ⟨j, d, hd, hs⟩ => ?_)
    · unfold OwnZ at h7 ⊢
      rcases h7.2 with h8 | ⟨g, cp, cur, e, _, h9⟩
      · exact ⟨h7.1, .inl h8⟩
      · exact ⟨h7.1, .inr ⟨g, cp, cur, e, Nat.zero_le _, h9⟩⟩
    · rcases types_apart17 h6 (h.at' j d hd).rows.outer (by decide) with e | e
      · rw [e] at hb; cases hb
      · exact e (hb.trans hs.symm)
    · rcases types_apart17 h6 (h.at' j d hd).edges (by decide) with e | e
      · rw [e] at hb; cases hb
      · exact e (hb.trans hs.symm)
  · obtain ⟨k, c, i, l, h1, h2, h3, h4, h5, h6⟩ := hY hx
    obtain ⟨k', c', i', l', h1', h2', h3', h4', h5', h6'⟩ := hY hy
    intro hb'
    by_cases hkk : k = k'
    · subst hkk
      rw [h1] at h1'
      cases h1'
      exact (h.at' k c h1).rows.apart i i' x y b (by omega) h3 h3' hb hb'
    · exact h.apart hkk h1 h1' (.inr (.inl ⟨i, x, h3, hb⟩)) (.inr (.inl ⟨i', y, h3', hb'⟩))
  · obtain ⟨k, c, i, l, h1, h2, h3, h4, h5, h6⟩ := hY hx
    intro hb'
    rcases types_apart17 h6 hall (by decide) with e | e
    · rw [e] at hb; cases hb
    · exact e (hb.trans hb'.symm)
theorem Six.low (h : Six ar es Y cs) {L : Nat} (hlo : ∀ (j : Nat) (c : Ct), cs[j]? = some c → L ≤ c.lo) : (∀ b, SA cs b → L ≤ b) ∧ (∀ b, SE cs b → L ≤ b) ∧ ∀ b, inV (cs.flatMap fun c => c.vs) b → L ≤ b := by
  refine ⟨fun b ⟨k, c, hc, e⟩ => Nat.le_trans (hlo k c hc) ((h.at' k c hc).top b (.inl e)).1, fun b ⟨k, c, hc, e⟩ => Nat.le_trans (hlo k c hc) ((h.at' k c hc).top b (.inr (.inr e))).1, fun b ⟨t, x, hx, e⟩ => ?_⟩
  obtain ⟨k, c, i, h1, h2, h3, h4⟩ := flat_at17 (fun c : Ct => c.vs) ar.length cs t x (h.vlen rfl) hx
  exact Nat.le_trans (hlo k c h1) ((h.at' k c h1).top b (.inr (.inl ⟨i, x, h3, e⟩))).1
theorem Six.avSE (h : Six ar es Y cs) {k : Nat} {c : Ct} (hc : cs[k]? = some c) {b : Nat} (hb : c.av.ownBlock = some b) : ¬ SE cs b := fun ⟨j, d, hd, hs⟩ => by
  rcases types_apart17 (h.at' k c hc).rows.outer (h.at' j d hd).edges (by decide) with e | e
  · rw [e] at hb; cases hb
  · exact e (hb.trans hs.symm)
theorem Cw.after {Z V : World} {p : Nat} {D : Nat → Nat → Prop} (hs : Six ar es Y cs) (h : Cw Y cs p D Z) (h1 : Wrote (SE cs) Z V) (h2 : Wrote (SE cs) V U) {j i : Nat} {c : Ct} (hc : cs[j]? = some c) (hd : D j i) : Put Y U j c i :=
  (h.put j c i hc hd).kept fun b hb hl => by
    have hn : ¬ SE cs b := by
      rcases hb with hb | hb
      · exact hs.avSE hc hb
      · intro h'
        have := hs.lt (.inr h')
        omega
    exact (h2.block b (Nat.lt_of_lt_of_le hl h1.size) hn).trans (h1.block b hl hn)
end
end Cm
end Go.Proofs.YtodlejemkihjnaaDoor
