import Derived.Test.YtfkmldopfhdbkaaMg08
import Derived.Test.YtfkmldopfhdbkaaMg09
import Derived.Maps.AppendAt
import Derived.Laws.Append
import Derived.Laws.AppendOwn
import Derived.Laws.AppendOwnNone
import Derived.Test.YtfkmldopfhdbkaaMg03
/-
  A list of lists that was made, and into which lists are laid.
-/
namespace Go.Proofs.Ytfkmldopfhdbkaa
open Go.RowKit

section
variable {W W1 : World} {B : Nat} {vs : List Value} {ls : List (List Int)}
/-- A list that a call has made is laid at u. -/
theorem RowsZ.store {u g c K : Nat} {x' : Value} {l' : List Int} (h : RowsZ W B (.slice (some ⟨g, 0, none⟩) K c) vs ls) (hls : ls.length = K) (hu : u < K) (hb : Below W.heap.size W W1) (hown : OwnZ W1 W.heap.size x' l') (hB : B ≤ W.heap.size) :
    (∃ y, W1.cell? ⟨g, u, none⟩ = some y) ∧ W1.frozen? ⟨g, u, none⟩ = false ∧ RowsZ (W1.setCell ⟨g, u, none⟩ x') B (.slice (some ⟨g, 0, none⟩) K c) (vs.set u x') (ls.set u l') ∧ Below B W (W1.setCell ⟨g, u, none⟩ x') := by
  subst hls
  have h1 : RowsZ W1 B (.slice (some ⟨g, 0, none⟩) ls.length c) vs ls := h.later hb
  have hul : u < vs.length := by rw [h.len]; exact hu
  obtain ⟨hgB, hgl⟩ := World.ownsRow.lt h.outer g rfl
  have hst := h1.outer.stored u x'
  have hc := World.ownsRow.cells h1.outer (g := g) rfl u _ (List.getElem?_eq_getElem hul)
  have ea : ((⟨g, 0, none⟩ : Addr).add u) = ⟨g, u, none⟩ := by
    by_cases h0 : u = 0 <;> simp [Addr.add, h0]
  rw [ea] at hc
  have hat : ∀ b, x'.ownBlock = some b → W.heap.size ≤ b := fun b hb => (World.ownsRow.lt hown b hb).1
  have hset : ∀ b, b ≠ g → (W1.setCell ⟨g, u, none⟩ x').heap[b]? = W1.heap[b]? := fun b hb => heap_setCell_other W1 ⟨g, u, none⟩ b x' hb
  have hold : ∀ (a : Nat) (y : Value) (b : Nat), vs[a]? = some y → y.ownBlock = some b → b < W.heap.size := fun a (y : Value) b hy hb => by
    obtain ⟨k, hk⟩ := h.at hy
    exact (World.ownsRow.lt (h.row a y k hy hk) b hb).2
  refine ⟨⟨_, hc⟩, h1.outer.frozenAt u, ⟨by simp [h.len], by rw [List.length_set]; exact hst.1, fun a y k ha hk => ?_, fun a a' y y' b hne ha ha' hb => ?_, fun a y b ha hb => ?_⟩, ?_⟩
  · rw [List.getElem?_set] at ha hk
    by_cases e : u = a
    · subst e
      rw [if_pos rfl, if_pos hul] at ha
      rw [if_pos rfl, if_pos hu] at hk
      cases ha
      cases hk
      refine (hown.lower hB).same fun b hb _ => hset b (fun e => ?_)
      have := hat b hb
      omega
    · rw [if_neg e] at ha hk
      exact (h1.row a y k ha hk).same fun b hb hl => hset b (fun e => h.far a y b ha hb (by rw [e]; rfl))
  · rw [List.getElem?_set] at ha ha'
    by_cases e : u = a
    · subst e
      rw [if_pos rfl, if_pos hul] at ha
      cases ha
      rw [if_neg hne] at ha'
      intro hc
      have := hold a' y' b ha' hc
      have := hat b hb
      omega
    · rw [if_neg e] at ha
      by_cases e' : u = a'
      · subst e'
        rw [if_pos rfl, if_pos hul] at ha'
        cases ha'
        intro hc
        have := hold a y b ha hb
        have := hat b hc
        omega
      · rw [if_neg e'] at ha'
        exact h.apart a a' y y' b hne ha ha' hb
  · rw [List.getElem?_set] at ha
    by_cases e : u = a
    · subst e
      rw [if_pos rfl, if_pos hul] at ha
      cases ha
      intro hc
      obtain rfl : g = b := by simpa [Value.ownBlock] using hc
      have := hat g hb
      omega
    · rw [if_neg e] at ha
      exact h.far a y b ha hb
  · exact (hb.mono hB).setCell (p := ⟨g, u, none⟩) hgB x'

/-- A list that was made since block B' is laid at u, where all lists that are there lie below B'. -/
theorem RowsZ.store2 {u g c K B' : Nat} {x' : Value} {l' : List Int} (h : RowsZ W1 B (.slice (some ⟨g, 0, none⟩) K c) vs ls) (hls : ls.length = K) (hu : u < K) (hg' : g < B') (hlow : ∀ (a : Nat) (y : Value) (b : Nat), vs[a]? = some y → y.ownBlock = some b → b < B') (hown : OwnZ W1 B' x' l') (hB : B ≤ B') :
    (∃ y, W1.cell? ⟨g, u, none⟩ = some y) ∧ W1.frozen? ⟨g, u, none⟩ = false ∧ RowsZ (W1.setCell ⟨g, u, none⟩ x') B (.slice (some ⟨g, 0, none⟩) K c) (vs.set u x') (ls.set u l') ∧ Below B W1 (W1.setCell ⟨g, u, none⟩ x') := by
  subst hls
  have h1 := h
  have hul : u < vs.length := by rw [h.len]; exact hu
  obtain ⟨hgB, hgl⟩ := World.ownsRow.lt h.outer g rfl
  have hst := h1.outer.stored u x'
  have hc := World.ownsRow.cells h1.outer (g := g) rfl u _ (List.getElem?_eq_getElem hul)
  have ea : ((⟨g, 0, none⟩ : Addr).add u) = ⟨g, u, none⟩ := by
    by_cases h0 : u = 0 <;> simp [Addr.add, h0]
  rw [ea] at hc
  have hat : ∀ b, x'.ownBlock = some b → B' ≤ b := fun b hb => (World.ownsRow.lt hown b hb).1
  have hset : ∀ b, b ≠ g → (W1.setCell ⟨g, u, none⟩ x').heap[b]? = W1.heap[b]? := fun b hb => heap_setCell_other W1 ⟨g, u, none⟩ b x' hb
  have hold := hlow
  refine ⟨⟨_, hc⟩, h1.outer.frozenAt u, ⟨by simp [h.len], by rw [List.length_set]; exact hst.1, fun a y k ha hk => ?_, fun a a' y y' b hne ha ha' hb => ?_, fun a y b ha hb => ?_⟩, ?_⟩
  · rw [List.getElem?_set] at ha hk
    by_cases e : u = a
    · subst e
      rw [if_pos rfl, if_pos hul] at ha
      rw [if_pos rfl, if_pos hu] at hk
      cases ha
      cases hk
      refine (hown.lower hB).same fun b hb _ => hset b (fun e => ?_)
      have := hat b hb
      omega
    · rw [if_neg e] at ha hk
      exact (h1.row a y k ha hk).same fun b hb hl => hset b (fun e => h.far a y b ha hb (by rw [e]; rfl))
  · rw [List.getElem?_set] at ha ha'
    by_cases e : u = a
    · subst e
      rw [if_pos rfl, if_pos hul] at ha
      cases ha
      rw [if_neg hne] at ha'
      intro hc
      have := hold a' y' b ha' hc
      have := hat b hb
      omega
    · rw [if_neg e] at ha
      by_cases e' : u = a'
      · subst e'
        rw [if_pos rfl, if_pos hul] at ha'
        cases ha'
        intro hc
        have := hold a y b ha hb
        have := hat b hc
        omega
      · rw [if_neg e'] at ha'
        exact h.apart a a' y y' b hne ha ha' hb
  · rw [List.getElem?_set] at ha
    by_cases e : u = a
    · subst e
      rw [if_pos rfl, if_pos hul] at ha
      cases ha
      intro hc
      obtain rfl : g = b := by simpa [Value.ownBlock] using hc
      have := hat g hb
      omega
    · rw [if_neg e] at ha
      exact h.far a y b ha hb
  · exact (Below.refl B W1).setCell (p := ⟨g, u, none⟩) hgB x'

/-- A list of n lists that was made. -/
theorem RowsZ.made {g n : Nat} (h : W.ownsRow B 36 1 (.slice (some ⟨g, 0, none⟩) n n) n (madeCells #[.slice none 0 0] n).toList) : RowsZ W B (.slice (some ⟨g, 0, none⟩) n n) (List.replicate n (.slice none 0 0)) (List.replicate n []) := by
  rw [toList_madeCells_one] at h
  refine ⟨by simp, by rw [List.length_replicate]; exact h, fun u x l hx hl => ?_, fun u u' x x' b _ hx _ hb => ?_, fun u x b hx hb => ?_⟩
  · have hx := List.eq_of_mem_replicate (List.mem_of_getElem? hx)
    have hl := List.eq_of_mem_replicate (List.mem_of_getElem? hl)
    subst hx
    subst hl
    exact OwnZ.nil _ _
  · have hx := List.eq_of_mem_replicate (List.mem_of_getElem? hx)
    subst hx
    cases hb
  · have hx := List.eq_of_mem_replicate (List.mem_of_getElem? hx)
    subst hx
    cases hb

/-- Lists of one's own as lists wherever they lie. -/
theorem RowsZ.rws {w : World} {v : Value} (h : RowsZ w B v vs ls) (hl : ∀ l ∈ ls, l.length ≤ 17592186043904) : ∃ xo xc, v = .slice xo ls.length xc ∧ RwsAt w xo ls ∧ ls.length ≤ xc := by
  obtain ⟨ao, c, e⟩ := row_shape h
  subst e
  refine ⟨ao, c, rfl, fun u l hu => ?_, ?_⟩
  · obtain ⟨x, hx⟩ := h.at' hu
    have hlt : 0 < ls.length := by have := (List.getElem?_eq_some_iff.1 hu).1; omega
    obtain ⟨g, c', e⟩ := row_form h hlt
    cases e
    have hc := World.ownsRow.cells h.outer (g := g) rfl u x hx
    have ea : ((⟨g, 0, none⟩ : Addr).add u) = ⟨g, 0 + u, none⟩ := by
      by_cases h0 : u = 0 <;> simp [Addr.add, h0]
    rw [ea] at hc
    have hrow := h.row u x l hx hu
    obtain ⟨A, C, rfl, hL, -⟩ := hrow.lst
    refine ⟨g, 0, A, C, rfl, hc, hL, hl l (List.mem_of_getElem? hu), ?_⟩
    rcases hrow.2 with ⟨h', h0⟩ | ⟨g', cap, cur, h', _, _, hlc, hm, _⟩
    · obtain ⟨-, -, hc0⟩ := Value.slice.inj h'
      exact ⟨by omega, by omega⟩
    · cases h'; exact ⟨hlc, by unfold maxLen at hm; omega⟩
  · rcases h.outer.2 with ⟨h', h0⟩ | ⟨g', cap, cur, h', _, _, hlc, _⟩
    · rw [h0]; exact Nat.zero_le _
    · cases h'; exact hlc
end

namespace Ro
/-- The first k lists are laid. -/
def fill (f : List Int → List Int) (ls : List (List Int)) (k : Nat) : List (List Int) := (ls.take k).map f ++ List.replicate (ls.length - k) []
theorem fill_len (f : List Int → List Int) (ls : List (List Int)) {k : Nat} (h : k ≤ ls.length) : (fill f ls k).length = ls.length := by simp [fill]; omega
theorem fill_zero (f : List Int → List Int) (ls : List (List Int)) : fill f ls 0 = List.replicate ls.length [] := by simp [fill]
theorem fill_all (f : List Int → List Int) (ls : List (List Int)) : fill f ls ls.length = ls.map f := by simp [fill]
theorem fill_set {f : List Int → List Int} {ls : List (List Int)} {k : Nat} {l : List Int} (h : ls[k]? = some l) : (fill f ls k).set k (f l) = fill f ls (k + 1) := by
  have hk := (List.getElem?_eq_some_iff.1 h).1
  refine List.ext_getElem? fun j => ?_
  unfold fill
  rw [List.getElem?_set, List.getElem?_append, List.getElem?_append]
  simp only [List.length_map, List.length_take, List.length_append, List.length_replicate, List.getElem?_map, List.getElem?_take, List.getElem?_replicate]
  have m1 : min k ls.length = k := by omega
  have m2 : min (k + 1) ls.length = k + 1 := by omega
  rw [m1, m2]
  by_cases e : k = j
  · subst e
    rw [if_pos rfl, if_pos (by omega), if_pos (by omega), if_pos (by omega), h]
    rfl
  · rw [if_neg e]
    by_cases h1 : j < k
    · rw [if_pos h1, if_pos h1, if_pos (by omega : j < k + 1), if_pos (by omega : j < k + 1)]
    · rw [if_neg h1, if_neg (by omega : ¬ j < k + 1)]
      have e1 : (j - k < ls.length - k) ↔ (j - (k + 1) < ls.length - (k + 1)) := by omega
      by_cases h2 : j - k < ls.length - k
      · rw [if_pos h2, if_pos (e1.1 h2)]
      · rw [if_neg h2, if_neg (fun h3 => h2 (e1.2 h3))]
end Ro

end Go.Proofs.Ytfkmldopfhdbkaa

/-
  One list more behind lists of one's own.
-/
namespace Go.Proofs.Ytfkmldopfhdbkaa
open Go.RowKit

/-- A call answers lists of its own. -/
def RowsPost (ls : List (List Int)) (w : World) (e : Ending) (w' : World) : Prop := ∃ v vs, e = .returned v ∧ RowsZ w' w.heap.size v vs ls ∧ Below w.heap.size w w'

/-- 'append(v, x)', v lists of one's own since block B (told in world W0), x a list that a call has made since. -/
theorem wpList_pushRow {ops : Array Oper} {rest : List Oper} {o : Oper} {a : Act} {Q : Exit → Act → World → Prop} (hgd : o.guard = none) (s x : Operand) (T : TypeId) (hT : Try.prog.underlying T = some (.slice 36))
    (ho : o.op = .call { callee := .builtin .append, args := #[s, x], argTypes := #[T, T] }) (W0 W : World) (B : Nat) (v : Value) (vs : List Value) (ls : List (List Int)) (y : Value) (l : List Int) (hr : RowsZ W0 B v vs ls) (hb : Below W0.heap.size W0 W)
    (hy : OwnZ W W0.heap.size y l) (hB : B ≤ W0.heap.size) (hl : ls.length ≤ 5864062014804) (hs : a.eval s = v) (hx : a.eval x = .slice (some ⟨W.heap.size, 0, none⟩) 1 1)
    (h : ∀ v' w', RowsZ w' B v' (vs ++ [y]) (ls ++ [l]) → Below B W0 w' → wpList Try.prog ops Q rest (a.put o.dst v') w') :
    wpList Try.prog ops Q (o :: rest) a (W.alloc (.cells #[y] 36)) := by
  obtain ⟨i0, hi, hz0, hz1, hz2⟩ := info_parts Try.infoRow
  have hW := hb.size
  have hr1 : RowsZ W B v vs ls := hr.later hb
  have hb0 : Below B W (W.alloc (.cells #[y] 36)) := (Below.refl _ _).alloc (by omega) _
  have hyv : ∃ ao c, y = .slice ao l.length c := by
    obtain ⟨ao, c, e, -⟩ := hy.form
    exact ⟨ao, c, e⟩
  obtain ⟨yo, yc, rfl⟩ := hyv
  refine wpList_append_own_at _ hgd s x T ho B 36 i0 (.slice none 0 0) 1 24 hT hi hz0 hz1 hz2 rfl (by decide) _ _ _ hs (World.ownsRow.alloc hr1.outer _) ⟨W.heap.size, 0, none⟩ 1 1 [.slice yo l.length yc] hx rfl (cell_one_new _ _ _) (by simp [Value.oneCell']) (by unfold maxLen; omega) (by omega) (by simp; omega) ?_
  intro v' w' hown' hg _ hat
  have hnew : ∀ b, Value.ownBlock (.slice yo l.length yc) = some b → W0.heap.size ≤ b := fun b hb => (World.ownsRow.lt hy b hb).1
  have hRZ : RowsZ w' B v' (vs ++ [.slice yo l.length yc]) (ls ++ [l]) := by
    refine hr1.grow (hy.lower hB) (fun u z b hz hzb e => ?_) (fun b hvb e => ?_) (tmp := .cells #[.slice yo l.length yc] 36) hown' hg ?_
    · obtain ⟨k, hk⟩ := hr.at hz
      have h1 := (World.ownsRow.lt (hr.row u z k hz hk) b hzb).2
      have h2 := hnew b e
      omega
    · have h1 := (World.ownsRow.lt hr.outer b hvb).2
      have h2 := hnew b e
      omega
    · rcases hat with h1 | h1
      · exact .inl h1
      · exact .inr (by simpa using h1)
  refine h v' w' hRZ ((hb.mono hB).trans (hb0.grown hg (by simp; omega) (fun b hvb => (World.ownsRow.lt hr1.outer b hvb).1)))

end Go.Proofs.Ytfkmldopfhdbkaa

/-
  slices.Grow of nothing, slices.Concat of lists.
-/
namespace Go.Proofs.Ytfkmldopfhdbkaa
open Go.RowKit

/-- A call answers a list of its own, of these ints. -/
def ListPost (l : List Int) (w : World) (e : Ending) (w' : World) : Prop := ∃ v, e = .returned v ∧ OwnZ w' w.heap.size v l ∧ Below w.heap.size w w'

theorem run_append_make (w : World) (ty : TypeId) (n : Nat) (h0 : 0 < n) (hn : n ≤ 17592186044416) :
    (Builtin.append_ #[36, 3] ty #[.slice none 0 0, .int .i64 (n : Int)]).run Try.prog w =
      .ok (.slice (some ⟨w.heap.size, 0, none⟩) n (grownCap w n 0 3)) (w.drew.alloc (.cells (Builtin.zeroCells #[.int .i64 0] n ++ Builtin.zeroCells #[.int .i64 0] (grownCap w n 0 3 - n)) 3)) := by
  obtain ⟨i0, hi, hz0, hz1, hz2⟩ := info_parts Try.infoNum
  have hn0 : n ≠ 0 := by omega
  have hneg : ¬ ((n : Int) < 0) := by omega
  have hw : IntKind.i64.wrap (n : Int) = (n : Int) := by rw [IntKind.wrap_i64]; omega
  have h63' : ¬ (9223372036854775807 < (n : Int)) := by omega
  have h48 : ¬ (281474976710656 < (n : Int) * 8) := by omega
  have h48' : ¬ (281474976710656 < Builtin.nextslicecap n 0 * 8) := by rw [nextslicecap_zero h0]; omega
  simp [Builtin.append_, run_underlying Try.underlying36, run_underlying Try.underlying3, sizeOf, typeInfo, zeroValue, hi, hz0, hz1, hz2, Builtin.lenOf, hn0, hw, hneg, h63', h48, h48', Question.forced, run_firstCells_none, newRow, grownCap, Value.cells, asInt, asIntOf]

/-- 'append(nil, make([]int, n)...)'. -/
theorem wpList_append_make {ops : Array Oper} {rest : List Oper} {o : Oper} {a : Act} {Q : Exit → Act → World → Prop} (hgd : o.guard = none) (s x : Operand)
    (ho : o.op = .call { callee := .builtin .append, args := #[s, x], argTypes := #[36, 3] }) (w : World) (n : Nat) (hs : a.eval s = .slice none 0 0) (hx : a.eval x = .int .i64 (n : Int)) (h0 : 0 < n) (hn : n ≤ 17592186044416)
    (h : ∀ c w', w'.ownsRow w.heap.size 3 1 (.slice (some ⟨w.heap.size, 0, none⟩) 0 c) 0 [] → n ≤ c → Below w.heap.size w w' → wpList Try.prog ops Q rest (a.put o.dst (.slice (some ⟨w.heap.size, 0, none⟩) n c)) w') :
    wpList Try.prog ops Q (o :: rest) a w := by
  have hr := run_append_make w o.type n h0 hn
  have hge := grownCap_ge w n 0 3
  have hle := grownCap_le_maxLen w n 0 3 (by unfold maxLen; omega)
  refine wpList_plain hgd fun K hK => ?_
  unfold Oper.wp
  simp [execOp, ho, resolve, invoke, builtin, hs, hx, hr, Result.andThen]
  refine hK _ _ (h _ _ ?_ hge ?_)
  · refine ⟨rfl, .inr ⟨w.heap.size, _, _, rfl, Nat.le_refl _, heap_alloc_new w.drew _, Nat.zero_le _, hle, ?_, by simp⟩⟩
    simp only [Array.size_append, size_zeroCells]
    simp
    omega
  · exact ((Below.refl _ _).drew).alloc (Nat.le_refl _) _

set_option maxRecDepth 100000 in
set_option maxHeartbeats 4000000 in
theorem sgrow_any (n : Nat) (w : World) (hn : n ≤ 17592186044416) :
    Calls Try.prog 76 #[.slice none 0 0, .int .i64 (n : Int)] w (ListPost [] w) := by
  have hneg : ¬ (n : Int) < 0 := by omega
  by_cases h0 : n = 0
  · subst h0
    go_enter Try.func76, Try.ntmps76
    go_wp2
    go_ret
    exact ⟨_, rfl, OwnZ.nil _ _, Below.refl _ _⟩
  · have h1 : (0 : Int) < (n : Int) := by omega
    have h2 : 0 < n := by omega
    have hws : IntKind.i64.wrap (n : Int) = (n : Int) := by rw [IntKind.wrap_i64]; omega
    go_enter Try.func76, Try.ntmps76
    go_wp2_with (at_builtin; refine wpList_append_make rfl _ _ rfl w n rfl rfl h2 hn ?_; refine Hid.out ?_)
    refine Nu.hid ?_
    intro c w1 ho hc hb
    have HO := Nu.hid ho
    have HB := Nu.hid hb
    clear ho hb
    go_wp2
    go_ret
    exact ⟨_, rfl, HO.out, HB.out⟩

end Go.Proofs.Ytfkmldopfhdbkaa

/-
  Faces, the program: the step, a face, all faces.
-/
namespace Go.Proofs.Ytfkmldopfhdbkaa
open Go.RowKit Go.Sort

/-- Block g holds the next half-edges: f is the step. -/
structure StepsAt (w : World) (g n : Nat) (f : Nat → Nat) : Prop where
  lt : g < w.heap.size
  cell : ∀ h, h < n → w.cell? ⟨g, Cs.twin h, none⟩ = some (.int .i64 (f h : Int))
  even : n % 2 = 0
  few : n ≤ 8388608
  per : Fa.Per n f
theorem StepsAt.later {w w' : World} {g n : Nat} {f : Nat → Nat} (h : StepsAt w g n f) (hb : Below w.heap.size w w') : StepsAt w' g n f :=
  ⟨by have := hb.size; have := h.lt; omega, fun x hx => (hb.cell (p := ⟨g, Cs.twin x, none⟩) h.lt).trans (h.cell x hx), h.even, h.few, h.per⟩
theorem StepsAt.same {w w' : World} {g n : Nat} {f : Nat → Nat} (h : StepsAt w g n f) (hb : w'.heap[g]? = w.heap[g]?) (hs : g < w'.heap.size) : StepsAt w' g n f :=
  ⟨hs, fun x hx => by rw [← h.cell x hx]; simp only [World.cell?]; rw [hb], h.even, h.few, h.per⟩

/-- How long a slice is. -/
def slLen : Value → Nat
  | .slice _ n _ => n
  | _ => 0

set_option maxRecDepth 100000 in
set_option maxHeartbeats 4000000 in
theorem from12_any (g n : Nat) (f : Nat → Nat) (h : Nat) (w : World) (hs : StepsAt w g n f) (hh : h < n) :
    Calls Try.prog 67 #[.slice (some ⟨g, 0, none⟩) n n, .int .i64 (h : Int)] w fun e w' => e = .returned (.int .i64 (f h : Int)) ∧ Below w.heap.size w w' := by
  have hfew := hs.few
  have hev := hs.even
  have hxt := Cs.xor_twin h (by omega)
  have hc := hs.cell h hh
  have htl : Cs.twin h < n := by
    have := Cs.twin_lt (i := h) (m := n / 2) (by omega)
    omega
  obtain ⟨t, ht⟩ : ∃ t, t = Cs.twin h := ⟨_, rfl⟩
  rw [← ht] at hxt hc htl
  have i0 : (0 : Int) ≤ (t : Int) := by omega
  have i1 : (t : Int) < (n : Int) := by omega
  have HB := Nu.hid (Below.refl w.heap.size w)
  clear hs hh ht htl
  go_enter Try.func67, Try.ntmps67
  go_wp2
  go_ret
  exact ⟨rfl, HB.out⟩

set_option maxRecDepth 100000 in
set_option maxHeartbeats 4000000 in
theorem round_any (g n : Nat) (f : Nat → Nat) (h : Nat) (w : World) (hs : StepsAt w g n f) (hh : h < n) :
    Calls Try.prog 48 #[.slice (some ⟨g, 0, none⟩) n n, .int .i64 (h : Int)] w (ListPost (Fa.zl (Fa.face f n h)) w) := by
  obtain ⟨p, hp⟩ := Fa.len_ex hs.per hh
  rw [Fa.face_way hp]
  have HP := Nu.hid hp
  have HS := Nu.hid hs
  have hple := hp.le
  have hfew := hs.few
  have hlt := fun i => Pl.it_lt hs.per.lt i hh
  have HF : Hid (∀ (W : World) (x : Nat), Below w.heap.size w W → x < n → Calls Try.prog 67 #[.slice (some ⟨g, 0, none⟩) n n, .int .i64 (x : Int)] W fun e w' => e = .returned (.int .i64 (f x : Int)) ∧ Below W.heap.size W w') := fun W x hb hx => from12_any g n f x W (hs.later hb) hx
  have HO1 : Hid (OwnZ (w.alloc (.cells #[.int .i64 (h : Int)] 3)) w.heap.size (.slice (some ⟨w.heap.size, 0, none⟩) 1 1) (Fa.zl (Fa.way f h 1))) := by
    have : IntsBlk (w.alloc (.cells #[.int .i64 (h : Int)] 3)) w.heap.size [(h : Int)] := heap_alloc_new w _
    exact this.own (Nat.le_refl _) rfl (by omega)
  have hb1 : Below w.heap.size w (w.alloc (.cells #[.int .i64 (h : Int)] 3)) := (Below.refl _ _).alloc (Nat.le_refl _) _
  have HB1 := Nu.hid hb1
  have HC1 := Nu.hid (HF.out _ h hb1 hh)
  have HLT := Nu.hid hlt
  clear hs hh hp hb1 hlt
  go_enter Try.func48, Try.ntmps48
  go_wp2_with (go_at_call 67; refine HC1.out.mono ?_; rintro e w1 ⟨rfl, hb⟩; refine Hid.out ?_)
  refine Nu.hid ?_
  have HO2 := Nu.hid (HO1.out.later hb)
  have HB2 := Nu.hid (HB1.out.trans (hb.mono HB1.out.size))
  clear hb
  go_wp2
  go_loopw [5, 6] (fun c5 c6 wr => ∃ j : Nat, 0 < j ∧ j ≤ p ∧ c6 = .int .i64 (Pl.it f j h : Int) ∧ OwnZ wr w.heap.size c5 (Fa.zl (Fa.way f h j)) ∧ Below w.heap.size w wr) (fun c5 _ _ => p - slLen c5)
  case atStart => exact ⟨1, by omega, HP.out.pos, rfl, HO2.out, HB2.out⟩
  case round =>
    obtain ⟨j, hj0, hj, rfl, hO, hb⟩ := hrel
    obtain ⟨W0, rfl⟩ : ∃ W0, W0 = wr := ⟨_, rfl⟩
    obtain ⟨uo, uc, hue, -⟩ := hO.form
    rw [Fa.zl_len, Fa.way_len] at hue
    subst hue
    have HO := Nu.hid hO
    have HB := Nu.hid hb
    have hsz := hb.size
    obtain ⟨y, hy⟩ : ∃ y, y = Pl.it f j h := ⟨_, rfl⟩
    have hyl := HLT.out j
    rw [← hy] at hyl ⊢
    have HY := Nu.hid hy
    by_cases e : y = h
    · have hjp : j = p := by
        rcases Nat.lt_or_ge j p with c | c
        · exact absurd (hy.symm.trans e) (HP.out.first j hj0 c)
        · omega
      have tn : ((y : Int) != (h : Int)) = false := by simp [e]
      have HJ := Nu.hid hjp
      clear hO hb hy e hjp
      go_wp2
      go_ret
      exact ⟨_, rfl, by rw [← HJ.out]; exact HO.out, HB.out⟩
    · have hjp : j < p := by
        rcases Nat.lt_or_ge j p with c | c
        · exact c
        · have : j = p := by omega
          rw [this, HP.out.back] at hy
          exact absurd hy e
      have tn : ((y : Int) != (h : Int)) = true := by
        have : (y : Int) ≠ (h : Int) := by omega
        simpa using this
      have HJ := Nu.hid hjp
      clear hO hb hy e hjp
      go_wp2_with (at_builtin; refine wpList_push rfl _ _ rfl W0 w.heap.size _ (Fa.zl (Fa.way f h j)) (y : Int) HO.out hsz (by rw [Fa.zl_len, Fa.way_len]; omega) rfl rfl ?_; refine Hid.out ?_)
      refine Nu.hid ?_
      intro v' w3 ho3 hg3 hat3 hb3
      have HO3 : Hid (OwnZ w3 w.heap.size v' (Fa.zl (Fa.way f h (j + 1)))) := by
        rw [Fa.way_succ, ← HY.out]
        unfold Fa.zl
        rw [List.map_append]
        exact ho3
      have HB3 := Nu.hid (HB.out.trans hb3)
      obtain ⟨vo, vc, hve, -⟩ := HO3.out.form
      rw [Fa.zl_len, Fa.way_len] at hve
      subst hve
      have HC3 := Nu.hid (HF.out w3 y HB3.out hyl)
      clear ho3 hg3 hat3 hb3
      go_wp2_with (go_at_call 67; refine HC3.out.mono ?_; rintro e w4 ⟨rfl, hb4⟩; refine Hid.out ?_)
      refine Nu.hid ?_
      have HO4 := Nu.hid (HO3.out.later hb4)
      have HB4 := Nu.hid (HB3.out.trans (hb4.mono HB3.out.size))
      have hfy : f y = Pl.it f (j + 1) h := by rw [Pl.it_succ, HY.out]
      rw [hfy]
      clear hb4 hfy
      go_wp2
      go_roundw
      case rel => exact ⟨j + 1, by omega, by have := HJ.out; omega, rfl, HO4.out, HB4.out⟩
      case measure => have := HJ.out; simp [slLen]; omega

end Go.Proofs.Ytfkmldopfhdbkaa

/-
  A list more behind lists of one's own, whatever else is one's own beside them: which blocks stay.
-/
namespace Go.Proofs.Ytfkmldopfhdbkaa
open Go.RowKit

/-- 'append(v, y)', v lists of one's own, y one that shares no block with them: what is not v's outer block stays. -/
theorem wpList_pushRowG {ops : Array Oper} {rest : List Oper} {o : Oper} {a : Act} {Q : Exit → Act → World → Prop} (hgd : o.guard = none) (s x : Operand) (T : TypeId) (hT : Try.prog.underlying T = some (.slice 36))
    (ho : o.op = .call { callee := .builtin .append, args := #[s, x], argTypes := #[T, T] }) (W : World) (B : Nat) (v : Value) (vs : List Value) (ls : List (List Int)) (y : Value) (l : List Int) (hr : RowsZ W B v vs ls)
    (hy : OwnZ W B y l) (h1 : ∀ (u : Nat) (z : Value) (b : Nat), vs[u]? = some z → z.ownBlock = some b → y.ownBlock ≠ some b) (h2 : ∀ b, v.ownBlock = some b → y.ownBlock ≠ some b) (hB : B ≤ W.heap.size) (hl : ls.length ≤ 5864062014804) (hs : a.eval s = v) (hx : a.eval x = .slice (some ⟨W.heap.size, 0, none⟩) 1 1)
    (h : ∀ v' w', RowsZ w' B v' (vs ++ [y]) (ls ++ [l]) → (∀ b, b < W.heap.size → v.ownBlock ≠ some b → w'.heap[b]? = W.heap[b]?) → (v'.ownBlock = v.ownBlock ∨ ∀ b, v'.ownBlock = some b → W.heap.size ≤ b) → Below B W w' → wpList Try.prog ops Q rest (a.put o.dst v') w') :
    wpList Try.prog ops Q (o :: rest) a (W.alloc (.cells #[y] 36)) := by
  obtain ⟨i0, hi, hz0, hz1, hz2⟩ := info_parts Try.infoRow
  have hb0 : Below B W (W.alloc (.cells #[y] 36)) := (Below.refl _ _).alloc (by omega) _
  have hyv : ∃ ao c, y = .slice ao l.length c := by
    obtain ⟨ao, c, e, -⟩ := hy.form
    exact ⟨ao, c, e⟩
  obtain ⟨yo, yc, rfl⟩ := hyv
  refine wpList_append_own_at _ hgd s x T ho B 36 i0 (.slice none 0 0) 1 24 hT hi hz0 hz1 hz2 rfl (by decide) _ _ _ hs (World.ownsRow.alloc hr.outer _) ⟨W.heap.size, 0, none⟩ 1 1 [.slice yo l.length yc] hx rfl (cell_one_new _ _ _) (by simp [Value.oneCell']) (by unfold maxLen; omega) (by omega) (by simp; omega) ?_
  intro v' w' hown' hg _ hat
  have hRZ : RowsZ w' B v' (vs ++ [.slice yo l.length yc]) (ls ++ [l]) := by
    refine hr.grow hy h1 h2 (tmp := .cells #[.slice yo l.length yc] 36) hown' hg ?_
    rcases hat with h1 | h1
    · exact .inl h1
    · exact .inr (by simpa using h1)
  refine h v' w' hRZ (fun b hb hne => ?_) ?_ (hb0.grown hg (by simp; omega) (fun b hvb => (World.ownsRow.lt hr.outer b hvb).1))
  · exact (hg.block b (by simp; omega) (fun e => hne e.symm)).trans (Below.heap_alloc W _ b hb)
  · rcases hat with h1 | h1
    · exact .inl h1
    · refine .inr fun b hb => ?_
      rw [h1] at hb
      have := Option.some.inj hb
      simp at this
      omega

end Go.Proofs.Ytfkmldopfhdbkaa
