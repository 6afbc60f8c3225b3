import Derived.Test.YtalfpbalekbinaaGreatMg09
import Derived.ArgAppend
import Derived.Deep.DeepAppendRoom
import Derived.Deep.QuietTactic
import Derived.BigQuiet
import Derived.BigRegion
import Derived.Test.YtalfpbalekbinaaGreatMg02
import Derived.Test.YtalfpbalekbinaaGreatMg01
import Derived.Test.YtalfpbalekbinaaGreatMg04
import Derived.Deep.RegionHeld3
import Derived.Lib.SliceRun
import Derived.Laws.AppendOwnNone
/-
  An append that leaves the list it began with as it was; lists of lists under stores.
-/
namespace Go.Proofs.YtalfpbalekbinaaGreat
open Go.RowKit

theorem grown_any {w w' : World} (h : w.grownBy w' none) (r : Option Nat) : w.grownBy w' r := ⟨h.os, h.tape, h.output, h.size, fun k hk _ => h.block k hk (by simp)⟩

/-- The row that a longer one in its block began with. -/
theorem own_front {w : World} {B g p c : Nat} {xs : List Value} {z : Value} (h : w.ownsRow B 3 1 (.slice (some ⟨g, 0, none⟩) (p + 1) c) (p + 1) (xs ++ [z])) (hx : xs.length = p) : w.ownsRow B 3 1 (.slice (some ⟨g, 0, none⟩) p c) p xs := by
  rcases h.2 with ⟨h', _⟩ | ⟨g', cap, cur, e, hB, hh, hc, hm, hs, ht⟩
  · cases h'
  · cases e
    refine ⟨by omega, .inr ⟨g, c, cur, rfl, hB, hh, by omega, hm, hs, ?_⟩⟩
    have e1 : cur.toList.take (p * 1) = (cur.toList.take ((p + 1) * 1)).take (p * 1) := by rw [List.take_take]; congr 1; omega
    rw [e1, ht, List.take_append_of_le_length (by omega), List.take_of_length_le (by omega)]

/-- 'append(v, z)' of a list of one's own: the list it began with reads as before. -/
theorem wpList_append_keep {W : World} {ops : Array Oper} {rest : List Oper} {o : Oper} {a : Act} {Q : Exit → Act → World → Prop} (hgd : o.guard = none) (s x : Operand)
    (ho : o.op = .call { callee := .builtin .append, args := #[s, x], argTypes := #[26, 26] }) (B p : Nat) (ao : Option Addr) (c : Nat) (xs : List Value) (z : Int)
    (hs : a.eval s = .slice ao p c) (hown : W.ownsRow B 3 1 (.slice ao p c) p xs) (ad : Addr) (hx : a.eval x = .slice (some ad) 1 1) (hnews : ∀ j u, [Value.int .i64 z][j]? = some u → W.cell? (ad.add j) = some u) (hp : p ≤ 17592186044000) (hB : B ≤ W.heap.size)
    (h : ∀ g' c' w', w'.ownsRow B 3 1 (.slice (some ⟨g', 0, none⟩) (p + 1) c') (p + 1) (xs ++ [.int .i64 z]) → w'.ownsRow B 3 1 (.slice ao p c) p xs → W.grownBy w' (Value.slice ao p c).ownBlock → (((Value.slice ao p c).ownBlock = some g' ∧ c' = c) ∨ W.heap.size ≤ g') → g' < w'.heap.size → wpList Tryz.prog ops Q rest (a.put o.dst (.slice (some ⟨g', 0, none⟩) (p + 1) c')) w') :
    wpList Tryz.prog ops Q (o :: rest) a W := by
  obtain ⟨i0, hi, hz0, hz1, hz2⟩ := info_parts Tryz.infoNum
  have hxl : xs.length = p := by have := hown.1; omega
  by_cases hroom : p + 1 ≤ c
  · obtain ⟨g, hg⟩ : ∃ g, ao = some ⟨g, 0, none⟩ := by
      rcases hown.2 with ⟨h', _⟩ | ⟨g, cap, cur, e, _⟩
      · cases h'; omega
      · cases e; exact ⟨g, rfl⟩
    subst hg
    refine wpList_append_own_spare (w := W) hgd s x 26 ho B 3 i0 1 Tryz.underlying26 hi hz1 g p c xs hs hown ad 1 1 [.int .i64 z] hx rfl hnews (by simp [Value.oneCell']) hroom ?_
    intro w' h2 h3
    exact h g c w' h2 (own_front h2 hxl) h3 (.inl ⟨rfl, rfl⟩) (World.ownsRow.lt h2 g rfl).2
  · refine wpList_append_grows W hgd s x 26 ho 3 i0 (.int .i64 0) 1 8 Tryz.underlying26 hi hz0 hz1 hz2 rfl (by decide) ao p c xs hs (fun e => ?_) (by omega) (fun b hb j u hj => ?_) ad 1 1 [.int .i64 z] hx rfl hnews (by simp [Value.oneCell']) (by omega) (by unfold maxLen; omega) (by omega) ?_
    · rcases hown.2 with ⟨h', h0⟩ | ⟨g, cap, cur, e', _⟩
      · cases h'; exact ⟨h0, rfl⟩
      · rw [e] at e'; cases e'
    · rcases hown.2 with ⟨h', h0⟩ | ⟨g, cap, cur, e', _⟩
      · rw [hb] at h'; cases h'
      · rw [hb] at e'
        cases e'
        have := World.ownsRow.cells hown (g := g) (by rw [hb]; rfl) j u hj
        exact this
    · intro v' w' h2 h3
      obtain ⟨g', c', rfl⟩ := own_succ h2
      have hlt := World.ownsRow.lt h2 g' rfl
      have h4 : w'.ownsRow B 3 1 (.slice (some ⟨g', 0, none⟩) (p + 1) c') (p + 1) (xs ++ [.int .i64 z]) := by
        rcases h2.2 with h' | ⟨g, cap, cur, e1, hgB, hr⟩
        · exact ⟨h2.1, .inl h'⟩
        · exact ⟨h2.1, .inr ⟨g, cap, cur, e1, Nat.le_trans hB hgB, hr⟩⟩
      exact h g' c' w' h4 (hown.kept h3 (by cases (Value.slice ao p c).ownBlock <;> simp)) (grown_any h3 _) (.inr hlt.1) hlt.2

/-- The same, however much longer. -/
theorem own_prefix {w : World} {B g p i c : Nat} {xs ys : List Value} (h : w.ownsRow B 3 1 (.slice (some ⟨g, 0, none⟩) (p + i) c) (p + i) (xs ++ ys)) (hx : xs.length = p) : w.ownsRow B 3 1 (.slice (some ⟨g, 0, none⟩) p c) p xs := by
  rcases h.2 with ⟨h', _⟩ | ⟨g', cap, cur, e, hB, hh, hc, hm, hs, ht⟩
  · cases h'
  · cases e
    refine ⟨by omega, .inr ⟨g, c, cur, rfl, hB, hh, by omega, hm, hs, ?_⟩⟩
    have e1 : cur.toList.take (p * 1) = (cur.toList.take ((p + i) * 1)).take (p * 1) := by rw [List.take_take]; congr 1; omega
    rw [e1, ht, List.take_append_of_le_length (by omega), List.take_of_length_le (by omega)]

section
variable {w w' : World} {B : Nat} {v : Value} {vs : List Value} {ls : List (List Int)}

/-- b is a block of one of the lists. -/
def inV (vs : List Value) (b : Nat) : Prop := ∃ (u : Nat) (x : Value), vs[u]? = some x ∧ x.ownBlock = some b

/-- What is not written stays. -/
theorem RowsZ.kept (h : RowsZ w B v vs ls) (hb : ∀ b, (v.ownBlock = some b ∨ inV vs b) → b < w.heap.size → w'.heap[b]? = w.heap[b]?) : RowsZ w' B v vs ls :=
  ⟨h.len, row_same h.outer fun g hg _ hl => hb g (.inl hg) hl, fun u x l hx hl => (h.row u x l hx hl).same fun g hg hlt => hb g (.inr ⟨u, x, hx, hg⟩) hlt, h.apart, h.far⟩

/-- A store into list u. -/
theorem RowsZ.write {u g p c i : Nat} {l : List Int} (h : RowsZ w B v vs ls) (hx : vs[u]? = some (.slice (some ⟨g, 0, none⟩) p c)) (hl : ls[u]? = some l) (hp : l.length = p) (hi : i < p) (z : Int) :
    (∃ y : Int, w.cell? ⟨g, i, none⟩ = some (.int .i64 y)) ∧ w.frozen? ⟨g, i, none⟩ = false ∧ RowsZ (w.setCell ⟨g, i, none⟩ (.int .i64 z)) B v vs (ls.set u (l.set i z)) ∧ B ≤ g := by
  have ho := h.row u _ l hx hl
  have hul := (List.getElem?_eq_some_iff.1 hl).1
  unfold OwnZ at ho
  rw [hp] at ho
  obtain ⟨y, hy⟩ : ∃ y, l[i]? = some y := ⟨_, List.getElem?_eq_getElem (by omega)⟩
  have hc := World.ownsRow.cells ho (g := g) rfl i (.int .i64 y) (by rw [List.getElem?_map, hy]; rfl)
  have ea : ((⟨g, 0, none⟩ : Addr).add i) = ⟨g, i, none⟩ := by
    by_cases h0 : i = 0 <;> simp [Addr.add, h0]
  rw [ea] at hc
  have hst := (ho.stored i (.int .i64 z)).1
  have hoth : ∀ b, b ≠ g → (w.setCell ⟨g, i, none⟩ (.int .i64 z)).heap[b]? = w.heap[b]? := fun b hb => heap_setCell_other w ⟨g, i, none⟩ b _ hb
  refine ⟨⟨y, hc⟩, ho.frozenAt i, ⟨by simp [h.len], by rw [List.length_set]; exact row_same h.outer fun b hb _ _ => hoth b (fun e => h.far u _ g hx rfl (by rw [← e]; exact hb)), fun a q k ha hk => ?_, h.apart, h.far⟩, (World.ownsRow.lt ho g rfl).1⟩
  rw [List.getElem?_set] at hk
  by_cases e : u = a
  · subst e
    rw [if_pos rfl, if_pos hul] at hk
    rw [hx] at ha
    cases ha
    cases hk
    unfold OwnZ
    rw [List.length_set, hp, List.map_set]
    exact hst
  · rw [if_neg e] at hk
    exact (h.row a q k ha hk).same fun b hb _ => hoth b (fun e2 => h.apart u a _ q g e hx ha rfl (by rw [← e2]; exact hb))
end

end Go.Proofs.YtalfpbalekbinaaGreat

/-
  A stack of ints: a cell that holds a list of one's own; what its calls do.
-/
namespace Go.Proofs.YtalfpbalekbinaaGreat
open Go.RowKit

/-- Cell o of block b, which holds cs, is the list v of the ints K, in memory of its own. -/
structure StkAt (w : World) (b o : Nat) (cs : Array Value) (T : TypeId) (B : Nat) (v : Value) (K : List Int) : Prop where
  blk : w.heap[b]? = some (.cells cs T (0, 0))
  at_ : cs[o]? = some v
  own : OwnZ w B v K
  far : v.ownBlock ≠ some b

section
variable {w w' : World} {b o B : Nat} {cs : Array Value} {T : TypeId} {v : Value} {K : List Int}
theorem StkAt.cell (h : StkAt w b o cs T B v K) : w.cell? ⟨b, o, none⟩ = some v := by
  simp [World.cell?, h.blk, h.at_]
theorem StkAt.free (h : StkAt w b o cs T B v K) : w.frozen? ⟨b, o, none⟩ = false := by
  simp [World.frozen?, h.blk]
theorem StkAt.lt (h : StkAt w b o cs T B v K) : b < w.heap.size := lt_of_block h.blk
theorem OwnZ.row_snoc {x : Int} (h : OwnZ w B v (K ++ [x])) : ∃ g c, v = .slice (some ⟨g, 0, none⟩) (K.length + 1) c ∧ w.cell? ⟨g, K.length, none⟩ = some (.int .i64 x) ∧ K.length + 1 ≤ c ∧ B ≤ g ∧ g < w.heap.size := by
  unfold OwnZ at h
  rw [List.length_append, List.length_singleton, List.map_append] at h
  obtain ⟨g, c, rfl⟩ := own_succ h
  have hc := World.ownsRow.cells h (g := g) rfl K.length (.int .i64 x) (by simp)
  have ea : ((⟨g, 0, none⟩ : Addr).add K.length) = ⟨g, K.length, none⟩ := by
    by_cases h0 : K.length = 0 <;> simp [Addr.add, h0]
  rw [ea] at hc
  refine ⟨g, c, rfl, hc, ?_, World.ownsRow.lt h g rfl⟩
  rcases h.2 with ⟨h', _⟩ | ⟨g', cap, cur, e, _, _, hcc, _⟩
  · cases h'
  · cases e; exact hcc
theorem OwnZ.front {x : Int} {g c : Nat} (h : OwnZ w B (.slice (some ⟨g, 0, none⟩) (K.length + 1) c) (K ++ [x])) : OwnZ w B (.slice (some ⟨g, 0, none⟩) K.length c) K := by
  unfold OwnZ at h ⊢
  rw [List.length_append, List.length_singleton, List.map_append] at h
  exact own_front h (by simp)
end

/-- What push does. -/
def PushPost (b o : Nat) (cs : Array Value) (T : TypeId) (B : Nat) (v : Value) (K : List Int) (w : World) (e : Ending) (w' : World) : Prop :=
  e = .returned (.tuple #[]) ∧ ∃ v', StkAt w' b o (cs.setIfInBounds o v') T B v' K ∧ (v'.ownBlock = v.ownBlock ∨ ∃ g, v'.ownBlock = some g ∧ w.heap.size ≤ g) ∧ Wrote (fun k => k = b ∨ v.ownBlock = some k) w w'

theorem set_at {cs : Array Value} {o : Nat} {v v' : Value} (h : cs[o]? = some v) : (cs.setIfInBounds o v')[o]? = some v' := by
  have := (Array.getElem?_eq_some_iff.1 h).1
  simp [this]

set_option maxRecDepth 100000 in
set_option maxHeartbeats 4000000 in
theorem push_any (b o : Nat) (cs : Array Value) (T : TypeId) (B : Nat) (v : Value) (K : List Int) (x : Int) (w : World) (h : StkAt w b o cs T B v K) (hB : B ≤ w.heap.size) (hl : K.length ≤ 17592186044000) :
    Calls Tryz.prog 71 #[.pointer (some ⟨b, o, none⟩), .int .i64 x] w (PushPost b o cs T B v (K ++ [x]) w) := by
  obtain ⟨i0, hi, hz0, hz1, hz2⟩ := info_parts Tryz.infoNum
  have c0 := h.cell
  have HH := Nu.hid h
  have hlt := h.lt
  have hrow : w.ownsRow B 3 1 v K.length (K.map (Value.int .i64)) := h.own
  have HROW := Nu.hid hrow
  clear h hrow
  go_enter Tryz.func71, Tryz.ntmps71
  go_wp2_with (at_builtin; refine wpList_append_own_at _ rfl _ _ 26 rfl B 3 i0 (.int .i64 0) 1 8 Tryz.underlying26 hi hz0 hz1 hz2 rfl (by decide) _ _ _ rfl (World.ownsRow.alloc HROW.out _) ⟨w.heap.size, 0, none⟩ 1 1 [.int .i64 x] rfl rfl (cell_one_new _ _ _) (by simp [Value.oneCell']) (by unfold maxLen; omega) (by omega) (by simp; omega) ?_; refine Hid.out ?_)
  refine Nu.hid ?_
  intro v' w1 hown hg _ hat
  have hb1 : w1.heap[b]? = some (.cells cs T (0, 0)) := by
    rw [hg.block b (by rw [World.size_alloc]; omega) (fun e => HH.out.far e.symm)]
    exact (Below.heap_alloc w _ b hlt).trans HH.out.blk
  have c1 : w1.cell? ⟨b, o, none⟩ = some v := by simp [World.cell?, hb1, HH.out.at_]
  have f1 : w1.frozen? ⟨b, o, none⟩ = false := by simp [World.frozen?, hb1]
  have hat2 : v'.ownBlock = v.ownBlock ∨ v'.ownBlock = some (w.heap.size + 1) := by simpa using hat
  have hfar : v'.ownBlock ≠ some b := by
    rcases hat2 with e | e
    · rw [e]; exact HH.out.far
    · rw [e]; intro e2; have := Option.some.inj e2; omega
  have hz : OwnZ w1 B v' (K ++ [x]) := by
    unfold OwnZ
    rw [List.length_append, List.map_append]
    exact hown
  have HEND : Hid (PushPost b o cs T B v (K ++ [x]) w (.returned (.tuple #[])) (w1.setCell ⟨b, o, none⟩ v')) := by
    refine ⟨rfl, v', ⟨heap_setCell_same w1 b o _ _ _ hb1, set_at HH.out.at_, hz.same fun g hgg _ => heap_setCell_other w1 ⟨b, o, none⟩ g _ (fun e => hfar (by rw [hgg]; exact congrArg some e)), hfar⟩, ?_, ?_⟩
    · rcases hat2 with e | e
      · exact .inl e
      · exact .inr ⟨_, e, by omega⟩
    · refine ⟨hg.os, hg.tape, hg.output, ?_, fun k hk hn => ?_⟩
      · have := hg.size
        rw [World.size_alloc] at this
        simp
        omega
      · rw [heap_setCell_other w1 ⟨b, o, none⟩ k _ (fun e => hn (.inl e)), hg.block k (by rw [World.size_alloc]; omega) (fun e => hn (.inr e.symm))]
        exact Below.heap_alloc w _ k hk
  obtain ⟨g, cap, hv⟩ := own_succ hown
  subst hv
  clear hown hg hat hat2 hfar hz hb1 HH HROW
  go_wp2
  go_end0
  exact HEND.out

set_option maxRecDepth 100000 in
set_option maxHeartbeats 4000000 in
theorem empty_any (b o : Nat) (cs : Array Value) (T : TypeId) (B : Nat) (v : Value) (K : List Int) (w : World) (h : StkAt w b o cs T B v K) :
    Calls Tryz.prog 69 #[.pointer (some ⟨b, o, none⟩)] w fun e w' => e = .returned (.bool (decide (K.length = 0))) ∧ w' = w := by
  have c0 := h.cell
  obtain ⟨ao, cap, rfl, _, _⟩ := h.own.form
  clear h
  by_cases hk : K.length = 0
  · rw [hk] at c0
    have hd : decide (K.length = 0) = true := by simp [hk]
    rw [hd]
    clear hd hk
    go_enter Tryz.func69, Tryz.ntmps69
    go_wp2
    go_ret
    exact ⟨rfl, rfl⟩
  · have hd : decide (K.length = 0) = false := by simp [hk]
    have he : ((K.length : Int) == 0) = false := by simp only [beq_eq_false_iff_ne, ne_eq]; omega
    rw [hd]
    clear hd hk
    go_enter Tryz.func69, Tryz.ntmps69
    go_wp2
    go_ret
    exact ⟨rfl, rfl⟩

set_option maxRecDepth 100000 in
set_option maxHeartbeats 4000000 in
theorem top_any (b o : Nat) (cs : Array Value) (T : TypeId) (B : Nat) (v : Value) (K : List Int) (x : Int) (w : World) (h : StkAt w b o cs T B v (K ++ [x])) (hl : K.length ≤ 17592186044000) :
    Calls Tryz.prog 84 #[.pointer (some ⟨b, o, none⟩)] w fun e w' => e = .returned (.int .i64 x) ∧ ∃ k, w' = w.drewN k := by
  have c0 := h.cell
  obtain ⟨g, c, rfl, c1, h2, _⟩ := h.own.row_snoc
  obtain ⟨p, hp⟩ : ∃ p, K.length = p := ⟨_, rfl⟩
  rw [hp] at c0 c1 h2 hl
  clear h hp
  have e1 : ((p : Int) + 1) - 1 = (p : Int) := by omega
  have e2 : (0 : Int) ≤ (p : Int) := by omega
  have e3 : (p : Int) < (p : Int) + 1 := by omega
  go_enter Tryz.func84, Tryz.ntmps84
  go_wp2_with fail
  go_quiet (fail)
  go_wp2
  go_ret
  exact ⟨rfl, nq, rfl⟩

/-- What pop does. -/
def PopPost (b o : Nat) (cs : Array Value) (T : TypeId) (B : Nat) (v : Value) (K : List Int) (x : Int) (w : World) (e : Ending) (w' : World) : Prop :=
  e = .returned (.int .i64 x) ∧ ∃ v', StkAt w' b o (cs.setIfInBounds o v') T B v' K ∧ v'.ownBlock = v.ownBlock ∧ Wrote (fun k => k = b) w w'

set_option maxRecDepth 100000 in
set_option maxHeartbeats 4000000 in
theorem pop_any (b o : Nat) (cs : Array Value) (T : TypeId) (B : Nat) (v : Value) (K : List Int) (x : Int) (w : World) (h : StkAt w b o cs T B v (K ++ [x])) (hl : K.length ≤ 17592186044000) :
    Calls Tryz.prog 70 #[.pointer (some ⟨b, o, none⟩)] w (PopPost b o cs T B v K x w) := by
  have HT := Nu.hid (top_any b o cs T B v K x w h hl)
  have hH := h
  have c0 := h.cell
  obtain ⟨g, c, rfl, c1, h2, _⟩ := h.own.row_snoc
  have f0 := h.free
  have hown := hH.own.front
  have hfar := hH.far
  have HEND : Hid (∀ k, PopPost b o cs T B (.slice (some ⟨g, 0, none⟩) (K.length + 1) c) K x w (.returned (.int .i64 x)) ((w.drewN k).setCell ⟨b, o, none⟩ (.slice (some ⟨g, 0, none⟩) K.length c))) := by
    intro k
    have hgb : g ≠ b := fun e => hfar (congrArg some e)
    refine ⟨rfl, _, ⟨heap_setCell_same (w.drewN k) b o _ _ _ hH.blk, set_at hH.at_, ?_, hfar⟩, rfl, ?_⟩
    · refine hown.same fun g' hg' _ => ?_
      obtain rfl : g = g' := Option.some.inj hg'
      exact heap_setCell_other (w.drewN k) ⟨b, o, none⟩ g _ hgb
    · exact ((Wrote.refl (fun k => k = b) w).drewN k).setCell rfl _
  obtain ⟨p, hp⟩ : ∃ p, K.length = p := ⟨_, rfl⟩
  rw [hp] at c0 c1 h2 HEND hl
  clear h hp hH hown hfar c1
  have e1 : ((p : Int) + 1) - 1 = (p : Int) := by omega
  have e2 : (0 : Int) ≤ (p : Int) := by omega
  have e3 : (p : Int) ≤ (c : Int) := by omega
  go_enter Tryz.func70, Tryz.ntmps70
  go_wp2_with (go_at_call 84; refine HT.out.mono ?_; rintro e w1 ⟨rfl, k1, rfl⟩)
  go_big_region
  go_wp2
  go_ret
  exact HEND.out _

end Go.Proofs.YtalfpbalekbinaaGreat

/-
  So many numbers that nothing has been said of.
-/
namespace Go.Proofs.YtalfpbalekbinaaGreat
open Go.RowKit

set_option maxRecDepth 100000 in
set_option maxHeartbeats 4000000 in
theorem unset_any (n : Nat) (w : World) (hn : n ≤ 8388608) :
    Calls Tryz.prog 67 #[.int .i64 (n : Int)] w fun e w' => ∃ g, e = .returned (.slice (some ⟨g, 0, none⟩) n n) ∧ w.heap.size ≤ g ∧ IntsBlk w' g (List.replicate n (-1)) ∧ Below w.heap.size w w' := by
  obtain ⟨i0, hi, hz0, hz1, hz2⟩ := info_parts Tryz.infoNum
  go_enter Tryz.func67, Tryz.ntmps67
  go_wp2_with (at_make; refine wpList_make_full _ rfl _ _ 26 rfl w.heap.size 3 i0 (.int .i64 0) 1 Tryz.underlying26 hi hz0 hz1 _ _ _ _ n rfl rfl rfl rfl (by rw [hz2]; omega) (by unfold maxLen; omega) (Nat.le_refl _) ?_; refine Hid.out ?_)
  refine Nu.hid ?_
  intro w2 hrow hg2
  rw [made_zeros] at hrow
  have hik := ints_of_row hrow
  have hb2 : Below w.heap.size w w2 := (Below.refl _ _).grown hg2 (Nat.le_refl _) (fun j hj => by cases hj)
  have HI2 := Nu.hid hik
  have HB2 := Nu.hid hb2
  clear hrow hg2 hik hb2
  go_wp2
  go_loopw [9] (fun c wr => ∃ (k : Nat) (S : List Int), k ≤ n ∧ c = .int .i64 k ∧ S.length = n ∧ (∀ v, v < k → S[v]? = some (-1)) ∧ IntsBlk wr w.heap.size S ∧ Below w.heap.size w wr) (fun c _ => n - (intOf c).toNat)
  case atStart => exact ⟨0, _, Nat.zero_le _, rfl, by simp, fun v hv => by omega, HI2.out, HB2.out⟩
  case round =>
    obtain ⟨k, S, hk, rfl, hSl, hS, hiS, hb⟩ := hrel
    have hsz := hiS.lt
    have HS := Nu.hid hS
    have HIS := Nu.hid hiS
    have HB := Nu.hid hb
    by_cases hkn : k < n
    · have hk0 : (0 : Int) ≤ (k : Int) := by omega
      have hk1 : (k : Int) < (n : Int) := by omega
      obtain ⟨x, hx⟩ : ∃ x, S[k]? = some x := ⟨_, List.getElem?_eq_getElem (by omega)⟩
      have c0 := hiS.cell hx
      have c1 := hiS.free k
      have HN1 := Nu.hid (hiS.set k (-1))
      have HBN := Nu.hid (hb.setCell (p := ⟨w.heap.size, k, none⟩) (Nat.le_refl _) (.int .i64 (-1)))
      clear hS hiS hb hx
      go_wp2
      go_roundw
      case rel =>
        refine ⟨k + 1, S.set k (-1), by omega, by go_num, by simp [hSl], fun v hv => ?_, HN1.out, HBN.out⟩
        rw [List.getElem?_set]
        by_cases e : k = v
        · subst e
          rw [if_pos rfl, if_pos (by omega)]
        · rw [if_neg e]
          exact HS.out v (by omega)
      case measure => simp [intOf]; omega
    · have hd : ¬ ((k : Int) < (n : Int)) := by omega
      have e : S = List.replicate n (-1) := by
        refine List.ext_getElem? fun v => ?_
        by_cases hv : v < n
        · rw [hS v (by omega), List.getElem?_replicate, if_pos hv]
        · rw [List.getElem?_eq_none (by omega), List.getElem?_eq_none (by simp; omega)]
      subst e
      clear hS hiS hb
      go_wp2
      go_ret
      exact ⟨w.heap.size, rfl, Nat.le_refl _, HIS.out, HB.out⟩

end Go.Proofs.YtalfpbalekbinaaGreat

/-
  Small things about memory that a walk and a reading share.
-/
namespace Go.Proofs.YtalfpbalekbinaaGreat
open Go.RowKit

theorem getD_of {l : List Int} {i : Nat} (d : Int) (h : i < l.length) : l[i]? = some (l.getD i d) := by
  rw [List.getD_eq_getElem?_getD, List.getElem?_eq_getElem h]
  rfl

theorem OwnZ.lt {w : World} {B : Nat} {v : Value} {l : List Int} (h : OwnZ w B v l) {b : Nat} (hb : v.ownBlock = some b) : B ≤ b ∧ b < w.heap.size := World.ownsRow.lt h b hb

section
variable {w : World}
/-- A store into one of the lists, or only block p is written. -/
theorem blk_same {g b i : Nat} (hne : g ≠ b) (x : Value) : (w.setCell ⟨b, i, none⟩ x).heap[g]? = w.heap[g]? := heap_setCell_other w ⟨b, i, none⟩ g x hne

theorem OwnZ.set_far {B b i : Nat} {v : Value} {l : List Int} (h : OwnZ w B v l) (hf : v.ownBlock ≠ some b) (x : Value) : OwnZ (w.setCell ⟨b, i, none⟩ x) B v l :=
  h.same fun _ hg _ => blk_same (fun e => hf (by rw [hg, e])) x

theorem IntsBlk.set_far {g b i : Nat} {l : List Int} (h : IntsBlk w g l) (hf : g ≠ b) (x : Value) : IntsBlk (w.setCell ⟨b, i, none⟩ x) g l := (blk_same hf x).trans h
end

/-- The least number that has P; 0, if none has. -/
noncomputable def leastOf (P : Nat → Prop) : Nat := open Classical in if h : ∃ k, P k ∧ ∀ j, P j → k ≤ j then Classical.choose h else 0

theorem ex_least {P : Nat → Prop} {k : Nat} (h : P k) : ∃ k, P k ∧ ∀ j, P j → k ≤ j := by
  induction k using Nat.strongRecOn with
  | _ k ih =>
    by_cases hk : ∃ j, j < k ∧ P j
    · obtain ⟨j, hj, hp⟩ := hk
      exact ih j hj hp
    · refine ⟨k, h, fun j hj => ?_⟩
      rcases Nat.lt_or_ge j k with h1 | h1
      · exact absurd ⟨j, h1, hj⟩ hk
      · exact h1

theorem leastOf_spec {P : Nat → Prop} {k : Nat} (h : P k) : P (leastOf P) ∧ leastOf P ≤ k := by
  have hx := ex_least h
  unfold leastOf
  rw [dif_pos hx]
  have := Classical.choose_spec hx
  exact ⟨this.1, this.2 k h⟩

/-- Four lists of ints, each in memory of its own, laid since block B. -/
structure OwnF (w : World) (B : Nat) (v1 v2 v3 v4 : Value) (s : Df.St) : Prop where
  o1 : OwnZ w B v1 s.par
  o2 : OwnZ w B v2 s.hei
  o3 : OwnZ w B v3 s.ord
  o4 : OwnZ w B v4 s.ori
  n12 : ∀ b, v1.ownBlock = some b → v2.ownBlock ≠ some b
  n13 : ∀ b, v1.ownBlock = some b → v3.ownBlock ≠ some b
  n14 : ∀ b, v1.ownBlock = some b → v4.ownBlock ≠ some b
  n23 : ∀ b, v2.ownBlock = some b → v3.ownBlock ≠ some b
  n24 : ∀ b, v2.ownBlock = some b → v4.ownBlock ≠ some b
  n34 : ∀ b, v3.ownBlock = some b → v4.ownBlock ≠ some b

section
variable {w w' : World} {B : Nat} {v1 v2 v3 v4 : Value} {s : Df.St}
theorem OwnF.same (h : OwnF w B v1 v2 v3 v4 s) (hb : ∀ g, B ≤ g → g < w.heap.size → w'.heap[g]? = w.heap[g]?) : OwnF w' B v1 v2 v3 v4 s :=
  ⟨h.o1.same fun g hg hl => hb g (h.o1.lt hg).1 hl, h.o2.same fun g hg hl => hb g (h.o2.lt hg).1 hl, h.o3.same fun g hg hl => hb g (h.o3.lt hg).1 hl, h.o4.same fun g hg hl => hb g (h.o4.lt hg).1 hl, h.n12, h.n13, h.n14, h.n23, h.n24, h.n34⟩
theorem OwnF.later (h : OwnF w B v1 v2 v3 v4 s) (hb : Below w.heap.size w w') : OwnF w' B v1 v2 v3 v4 s := h.same fun g _ hl => hb.block g hl
theorem OwnF.lower {B' : Nat} (h : OwnF w B v1 v2 v3 v4 s) (hB : B' ≤ B) : OwnF w B' v1 v2 v3 v4 s := ⟨h.o1.lower hB, h.o2.lower hB, h.o3.lower hB, h.o4.lower hB, h.n12, h.n13, h.n14, h.n23, h.n24, h.n34⟩
theorem OwnF.empty (w : World) (B : Nat) : OwnF w B (.slice none 0 0) (.slice none 0 0) (.slice none 0 0) (.slice none 0 0) ⟨[], [], [], []⟩ :=
  ⟨.nil _ _, .nil _ _, .nil _ _, .nil _ _, (fun _ h => by cases h), (fun _ h => by cases h), (fun _ h => by cases h), (fun _ h => by cases h), (fun _ h => by cases h), (fun _ h => by cases h)⟩
end

theorem IntsBlk.own0 {w : World} {B g n : Nat} {l : List Int} (h : IntsBlk w g l) (hB : B ≤ g) (hl : l.length = n) (hm : n ≤ 8388608) : OwnZ w B (.slice (some ⟨g, 0, none⟩) 0 n) [] := by
  subst hl
  exact ⟨by simp, .inr ⟨g, _, _, rfl, hB, h, by simp, by unfold maxLen; omega, by simp, by simp⟩⟩

theorem four_cells {w : World} {R : Nat} {t : TypeId} {a b c d : Value} (h : w.heap[R]? = some (.cells #[a, b, c, d] t (0, 0))) : w.cell? ⟨R, 0, none⟩ = some a ∧ w.cell? ⟨R, 1, none⟩ = some b ∧ w.cell? ⟨R, 2, none⟩ = some c ∧ w.cell? ⟨R, 3, none⟩ = some d ∧ ∀ i, w.frozen? ⟨R, i, none⟩ = false := by
  refine ⟨?_, ?_, ?_, ?_, fun i => ?_⟩
  · simp [World.cell?, h]
  · simp [World.cell?, h]
  · simp [World.cell?, h]
  · simp [World.cell?, h]
  · simp [World.frozen?, h]

theorem Cs.fr_ne_to {n : Nat} {es : List (Int × Int)} (hv : Si.Val n es) {h : Nat} (hh : h < 2 * es.length) : Cs.fr es h ≠ Cs.to es h := by
  obtain ⟨p, hp⟩ : ∃ p, es[h / 2]? = some p := ⟨_, List.getElem?_eq_getElem (by omega)⟩
  have ho := hv.each _ p hp
  unfold Si.ok at ho
  unfold Cs.fr Cs.to
  rw [List.getD_eq_getElem?_getD, hp]
  dsimp only [Option.getD_some]
  split <;> omega

/-- An Adj that isn't nil, or of nothing, is of a valid graph. -/
theorem IsAdj.val {w : World} {v : Value} {n : Nat} {es : List (Int × Int)} (h : IsAdj w v n es) {i : Nat} (hi : i < 2 * es.length) : Si.Val n es := by
  rcases h with ⟨_, _, rfl⟩ | ⟨_, _, _, h, _⟩
  · simp at hi
  · exact h

theorem made_blk {W : World} {k M : Nat} (h : W.heap.size = k) : IntsBlk (W.alloc (.cells (madeCells #[.int .i64 0] M) 3)) k (List.replicate M 0) := by
  subst h
  unfold IntsBlk
  rw [heap_alloc_new, ← made_zeros]

theorem alloc_at {W : World} {k : Nat} {o : Obj} (h : W.heap.size = k) : (W.alloc o).heap[k]? = some o := by
  subst h
  exact heap_alloc_new W o

end Go.Proofs.YtalfpbalekbinaaGreat

/-
  Numbers of 64 bits; how many cells an edge and an int take.
-/
namespace Go.Proofs.YtalfpbalekbinaaGreat
open Go.RowKit

theorem cellsEdge : Tryz.prog.cellsOf 46 = 2 := by kernel_rfl
theorem cellsIntK : Tryz.prog.cellsOf 3 = 1 := by kernel_rfl
/-- Both numbers are of 64 bits. -/
def In64 (e : Int × Int) : Prop := (-9223372036854775808 ≤ e.1 ∧ e.1 ≤ 9223372036854775807) ∧ -9223372036854775808 ≤ e.2 ∧ e.2 ≤ 9223372036854775807
theorem wf64 {x : Int} (h : -9223372036854775808 ≤ x ∧ x ≤ 9223372036854775807) : (Lit.int .i64 x).wf = true := WalkArith.wf_i64 (by omega)

end Go.Proofs.YtalfpbalekbinaaGreat

/-
  Slices of ints that came in, and what the second form's bound gives.
-/
namespace Go.Proofs.YtalfpbalekbinaaGreat
open Go.ChangeShapes Go.WideShapes Go.ChangeAt Go.RowKit

theorem wf_i64 {n : Int} (h : (Lit.int .i64 n).wf = true) : -9223372036854775808 ≤ n ∧ n ≤ 9223372036854775807 := by simpa using bounds_i64 h

theorem IsRow.wf {k : IntKind} {bytes : Nat} {w : World} {a : Option Addr} {len cap : Nat} {zs : List Int} (h : IsRow k bytes w a len cap zs) {i : Nat} (hi : i < len) : (Lit.int k (zs.getD i 0)).wf = true := by
  rcases h with ⟨_, rfl, _⟩ | ⟨x, rfl, hl, hm, hz, hc, hw⟩
  · omega
  · have hlt : i < zs.length := by omega
    have hm : zs.getD i 0 ∈ zs := by rw [List.getD_eq_getElem?_getD, List.getElem?_eq_getElem hlt]; simp
    exact hw _ hm

theorem IsRow.int_at {w : World} {a : Option Addr} {len cap : Nat} {zs : List Int} (h : IsRow .i64 8 w a len cap zs) {i : Nat} (hi : i < len) : ∃ b o, a = some ⟨b, o, none⟩ ∧ w.cell? ⟨b, o + i, none⟩ = some (.int .i64 (zs.getD i 0)) ∧ -9223372036854775808 ≤ zs.getD i 0 ∧ zs.getD i 0 ≤ 9223372036854775807 := by
  have hw := wf_i64 (h.wf hi)
  rcases h with ⟨_, rfl, _⟩ | ⟨x, rfl, hl, hm, hz, hc, _⟩
  · omega
  · have hlt : i < zs.length := by omega
    have hci := hc i hlt
    obtain ⟨b, o, sp⟩ := x
    have hsp : sp = none := by simpa [Addr.add] using World.cell?_spot (hc 0 (by omega))
    subst hsp
    refine ⟨b, o, rfl, ?_, hw⟩
    have e : ((⟨b, o, none⟩ : Addr).add i) = ⟨b, o + i, none⟩ := by
      by_cases h0 : i = 0 <;> simp [Addr.add, h0]
    rw [e] at hci
    exact hci

theorem bulk_one {H : Type} (d : DataW H) : 1 ≤ Rows.uptoBulk d := by
  cases d with
  | lit l => cases l <;> simp [Rows.uptoBulk]
  | nil => simp [Rows.uptoBulk]
  | ptr d => simp [Rows.uptoBulk]
  | slice elems spare => simp [Rows.uptoBulk]
  | agg parts => simp [Rows.uptoBulk]
  | iface t d => simp [Rows.uptoBulk]
  | map entries => simp [Rows.uptoBulk]
  | held h => simp [Rows.uptoBulk]

theorem bulk_part {H : Type} {d : DataW H} {l : List (DataW H)} (h : d ∈ l) : Rows.uptoBulk d ≤ Rows.uptoBulkAll l := by
  induction l with
  | nil => cases h
  | cons x r ih =>
    simp only [Rows.uptoBulkAll]
    cases List.mem_cons.1 h with
    | inl e => subst e; omega
    | inr e => have := ih e; omega

theorem bulk_length {H : Type} (l : List (DataW H)) : l.length ≤ Rows.uptoBulkAll l := by
  induction l with
  | nil => simp [Rows.uptoBulkAll]
  | cons x r ih => have := bulk_one x; simp only [Rows.uptoBulkAll, List.length_cons]; omega

theorem IsRow.upto {H : Type} {enc : TypeId × Value → H} {W : World} {t e : TypeId} {k : IntKind} {a : Option Addr} {len cap : Nat} {d : DataW H} {p : List MemPlace} {ds : List (DataW H)} (hk : Rows.uptoSmall H ds = true) {j : Nat}
    (ht : Tryz.prog.underlying t = some (.slice e)) (he : Tryz.prog.underlying e = some (.int k)) (hc : Tryz.prog.cellsOf e = 1)
    (h : DataW.Trod enc Tryz.prog W 0 (fun _ => true) true t (.slice a len cap) d p) (hds : ds[j]? = some d) : len ≤ 1048576 := by
  have hb := of_decide_eq_true hk
  have hp := bulk_part (List.mem_of_getElem? hds)
  obtain ⟨fuel, hf⟩ := h
  rcases open_ints ht he hc hf with ⟨hcs, _⟩ | ⟨x, l, c, zs, hcs, _, hl, hm, hz, hx, hcell, hwz⟩
  · simp [Value.cells] at hcs
    omega
  · simp [Value.cells] at hcs
    obtain ⟨rfl, rfl, rfl⟩ := hcs
    simp only [Prod.mk.injEq] at hx
    obtain ⟨rfl, _⟩ := hx
    have hz' : zs.length = cap := by simpa using hz
    have h1 := bulk_length (H := H) (lits k (zs.take len))
    simp only [Rows.uptoBulk] at hp
    simp only [lits, List.length_map, List.length_take] at h1
    simp only [lits] at hp
    omega

end Go.Proofs.YtalfpbalekbinaaGreat

/-
  Lists of ints wherever they lie; copies of them.
-/
namespace Go.Proofs.YtalfpbalekbinaaGreat
open Go.RowKit

/-- A list of the ints l, wherever it lies; nil has no room. -/
structure Lst (w : World) (ao : Option Addr) (n ca : Nat) (l : List Int) : Prop where
  len : l.length = n
  ints : IntsAt w ao l
  none : ao = none → n = 0 ∧ ca = 0

section
variable {w w' : World} {ao : Option Addr} {n ca : Nat} {l : List Int}
theorem Lst.later (h : Lst w ao n ca l) (hb : Below w.heap.size w w') : Lst w' ao n ca l := ⟨h.len, h.ints.later hb, h.none⟩
theorem IntsBlk.lst {g : Nat} (h : IntsBlk w g l) (hl : l.length = n) : Lst w (some ⟨g, 0, .none⟩) n ca l := ⟨hl, h.at, fun e => by cases e⟩
theorem OwnZ.lst {B : Nat} {v : Value} (h : OwnZ w B v l) : ∃ ao ca, v = .slice ao l.length ca ∧ Lst w ao l.length ca l ∧ (∀ x, ao = some x → B ≤ x.block ∧ x.block < w.heap.size) := by
  rcases h.2 with ⟨rfl, h0⟩ | ⟨g, cap, cur, rfl, hB, hh, _⟩
  · refine ⟨.none, 0, by rw [h0], ⟨rfl, fun j x hj => ?_, fun _ => ⟨h0, rfl⟩⟩, fun x hx => by cases hx⟩
    have := (List.getElem?_eq_some_iff.1 hj).1
    omega
  · obtain ⟨ao, ca, e, ha, hb⟩ := h.form
    cases e
    exact ⟨_, _, rfl, ⟨rfl, ha, fun e => by cases e⟩, hb⟩
end

/-- 'append([]int{}, xs...)': a copy in new memory, of a list wherever it lies. -/
theorem wpList_copy_lst {ops : Array Oper} {rest : List Oper} {o : Oper} {a : Act} {Q : Exit → Act → World → Prop} (hgd : o.guard = none) (s x : Operand)
    (ho : o.op = .call { callee := .builtin .append, args := #[s, x], argTypes := #[26, 26] }) (W : World) (ao : Option Addr) (n ca : Nat) (l : List Int) (hs : a.eval s = .slice (some ⟨W.heap.size, 0, none⟩) 0 0) (hx : a.eval x = .slice ao n ca)
    (hr : Lst W ao n ca l) (hn : n ≤ 17592186043904)
    (h : ∀ gb c w', w'.ownsRow W.heap.size 3 1 (.slice (some ⟨gb, 0, none⟩) n c) n (l.map (Value.int .i64)) → W.heap.size ≤ gb → gb < w'.heap.size → n ≤ c → Below W.heap.size W w' → wpList Tryz.prog ops Q rest (a.put o.dst (.slice (some ⟨gb, 0, none⟩) n c)) w') :
    wpList Tryz.prog ops Q (o :: rest) a (W.alloc (.cells #[] 3)) := by
  obtain ⟨i0, hi, hz0, hz1, hz2⟩ := info_parts Tryz.infoNum
  have hown0 : (W.alloc (.cells #[] 3)).ownsRow W.heap.size 3 1 (.slice (some ⟨W.heap.size, 0, none⟩) 0 0) 0 [] := World.ownsRow_made W #[] 0 (Nat.le_refl _) (Nat.zero_le _) rfl
  have hb0 : Below W.heap.size W (W.alloc (.cells #[] 3)) := (Below.refl _ _).alloc (Nat.le_refl _) _
  rcases ao with _ | y
  · obtain ⟨rfl, rfl⟩ := hr.none rfl
    have hl : l = [] := List.length_eq_zero_iff.1 hr.len
    subst hl
    refine wpList_append_own_none hgd s x 26 ho W.heap.size 3 i0 1 Tryz.underlying26 hi _ 0 [] hs hown0 hx ?_
    exact h _ _ _ hown0 (Nat.le_refl _) (by simp) (Nat.le_refl _) hb0
  · refine wpList_append_own _ hgd s x 26 ho W.heap.size 3 i0 (.int .i64 0) 1 8 Tryz.underlying26 hi hz0 hz1 hz2 rfl (by decide) _ 0 [] hs hown0 y n ca (l.map (Value.int .i64)) hx (by rw [List.length_map, hr.len]; omega) ?_ (ints_oneCell .i64 _) (by unfold maxLen; omega) (by rw [Nat.zero_add]; omega) (by simp) ?_
    · intro j u hj
      rw [List.getElem?_map] at hj
      cases hlj : l[j]? with
      | none => rw [hlj] at hj; cases hj
      | some z =>
        rw [hlj] at hj
        obtain rfl := Option.some.inj hj
        obtain ⟨b, o', e, hc⟩ := hr.ints j z hlj
        cases e
        have ea : ((⟨b, o', none⟩ : Addr).add j) = ⟨b, o' + j, none⟩ := by
          by_cases h0 : j = 0 <;> simp [Addr.add, h0]
        rw [ea]
        exact (World.grownBy_alloc W _ none).cell hc (by simp)
    · intro v' w' hown' hg hiff
      rw [Nat.zero_add, List.nil_append] at hown'
      rcases hown'.2 with ⟨hnil, _⟩ | ⟨gb, c, cur, rfl, hgb, hh, hlc, _⟩
      · have := (hiff.1 hnil).1
        cases this
      · exact h gb c w' hown' hgb (lt_of_block hh) hlc (hb0.grown hg (by simp) (fun q hq => by cases hq; exact Nat.le_refl _))

theorem IsRow.lst {w : World} {a : Option Addr} {len cap : Nat} {zs : List Int} (h : IsRow .i64 8 w a len cap zs) : Lst w a len cap (zs.take len) := by
  refine ⟨h.take, fun j z hj => ?_, fun e => ?_⟩
  · rcases h with ⟨_, rfl, _, rfl⟩ | ⟨x, rfl, hl, hm, hz, hc, hw⟩
    · simp at hj
    · rw [List.getElem?_take] at hj
      by_cases hjl : j < len
      · rw [if_pos hjl] at hj
        have hlt : j < zs.length := by omega
        have hci := hc j hlt
        rw [List.getD_eq_getElem?_getD, hj] at hci
        obtain ⟨b, o, sp⟩ := x
        have hsp : sp = none := by simpa [Addr.add] using World.cell?_spot (hc 0 (by omega))
        subst hsp
        refine ⟨b, o, rfl, ?_⟩
        have e : ((⟨b, o, none⟩ : Addr).add j) = ⟨b, o + j, none⟩ := by
          by_cases h0 : j = 0 <;> simp [Addr.add, h0]
        rw [e] at hci
        exact hci
      · rw [if_neg hjl] at hj
        cases hj
  · rcases h with ⟨_, h1, h2, _⟩ | ⟨x, h1, _⟩
    · exact ⟨h1, h2⟩
    · rw [h1] at e; cases e

theorem IsRow.few {w : World} {a : Option Addr} {len cap : Nat} {zs : List Int} (h : IsRow .i64 8 w a len cap zs) : len ≤ 17592186043904 := by
  have := h.small
  omega

theorem row_lst {w : World} {B g n c : Nat} {l : List Int} (h : w.ownsRow B 3 1 (.slice (some ⟨g, 0, none⟩) n c) n (l.map (Value.int .i64))) (hl : l.length = n) : Lst w (some ⟨g, 0, none⟩) n c l := by
  have hi := ints_in_row h
  exact ⟨hl, fun j x hj => ⟨g, 0, rfl, by rw [Nat.zero_add]; exact hi.cell hj⟩, fun e => by cases e⟩

end Go.Proofs.YtalfpbalekbinaaGreat
