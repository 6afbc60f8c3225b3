import Derived.Test.YtjlfdkeklilafabMg04
import Derived.Deep.Matrix
import Derived.SizedLaws
import Derived.Test.YtjlfdkeklilafabMg07
import Derived.ArgAppend
import Derived.Deep.DeepAppendRoom
import Derived.Test.YtjlfdkeklilafabMg05
import Derived.Test.YtjlfdkeklilafabMg01
import Derived.Test.YtjlfdkeklilafabMg02
/-
  Lists of lists that came in.
-/
namespace Go.Proofs.Ytjlfdkeklilafab
open Go.ChangeShapes Go.WideShapes Go.ChangeAt Go.RowKit Go.Deep

theorem cellsRow : Try.prog.cellsOf 39 = 1 := by kernel_rfl
theorem bytesRow : Try.prog.bytesOf 39 = 24 := by kernel_rfl

theorem weights_all_mem {H : Type} {P : Program} {e : TypeId} {d : DataW H} {l : List (DataW H)} (h : d ∈ l) : ∀ n ∈ d.weights P e, n ∈ DataW.weightsAll P e l := by
  induction l with
  | nil => cases h
  | cons x r ih =>
    intro n hn
    simp only [DataW.weightsAll, List.mem_append]
    rcases List.mem_cons.1 h with rfl | h
    · exact .inl hn
    · exact .inr (ih h n hn)

/-- The reach of a row inside. -/
theorem sized_row {H : Type} {P : Program} {ts : List TypeId} {ds : List (DataW H)} (h : (DataW.weightsEach P ts ds).all (· ≤ reachBytes) = true) {j : Nat} {t e q : TypeId} {elems spare e' sp' : List (DataW H)}
    (ht : ts[j]? = some t) (hd : ds[j]? = some (.slice elems spare)) (hu : P.underlying t = some (.slice e)) (hu2 : P.underlying e = some (.slice q)) (hx : DataW.slice e' sp' ∈ elems) : (e'.length + sp'.length) * P.bytesOf q ≤ reachBytes := by
  refine of_decide_eq_true (List.all_eq_true.1 h _ (DataW.weights_mem_each ht hd _ ?_))
  simp only [DataW.weights, hu, List.mem_cons, List.mem_append]
  exact .inr (.inl (weights_all_mem hx _ (by simp [DataW.weights, hu2])))

/-- What is known of lists that came in. -/
structure RowsIn (w : World) (ao : Option Addr) (len cap : Nat) (ls : List (List Int)) : Prop where
  hlen : ls.length = len
  hat : RwsAt w ao ls
  hsm : len * 24 ≤ 140737488351232

theorem rows_of_trod {H : Type} {enc : TypeId × Value → H} {W : World} {t : TypeId} {a : Option Addr} {len cap : Nat} {d : DataW H} {p : List MemPlace} {ts : List TypeId} {ds : List (DataW H)} {j : Nat}
    (ht : Try.prog.underlying t = some (.slice 39)) (h : DataW.Trod enc Try.prog W 0 (fun _ => true) true t (.slice a len cap) d p) (hsz : (DataW.weightsEach Try.prog ts ds).all (· ≤ reachBytes) = true) (hts : ts[j]? = some t) (hds : ds[j]? = some d) :
    ∃ ls, RowsIn W a len cap ls := by
  obtain ⟨fuel, hf⟩ := h
  rcases open_int_rows ht Try.underlying39 Try.underlying3 cellsRow cellsInt hf with ⟨hcs, _⟩ | ⟨x, l, c, A, L, C, Z, hcs, _, hl, hm, hx, hrow⟩
  · simp [Value.cells] at hcs
    obtain ⟨rfl, rfl, rfl⟩ := hcs
    exact ⟨[], rfl, RwsAt.nil _ _, by omega⟩
  · simp [Value.cells] at hcs
    obtain ⟨rfl, rfl, rfl⟩ := hcs
    simp only [Prod.mk.injEq] at hx
    obtain ⟨rfl, _⟩ := hx
    have hw := sized_slice hsz hts hds ht
    rw [bytesRow] at hw
    simp only [List.length_map, List.length_range, reachBytes] at hw
    refine ⟨(List.range len).map fun r => (Z r).take (L r), by simp, fun v m hvm => ?_, by omega⟩
    have hv : v < len := by
      have := (List.getElem?_eq_some_iff.1 hvm).1
      simpa using this
    rw [List.getElem?_map, List.getElem?_range hv] at hvm
    obtain rfl := Option.some.inj hvm
    obtain ⟨hc, h1, h2, h3, h4, h5, h6⟩ := hrow v (by omega)
    have hlen : ((Z v).take (L v)).length = L v := by rw [List.length_take]; omega
    have hC : C v ≤ 17592186043904 := by
      cases hA : A v with
      | none => have := h5 hA; omega
      | some y =>
        have hmem : intRow .i64 (A v) (L v) (Z v) ∈ (List.range len).map fun r => (intRow .i64 (A r) (L r) (Z r) : DataW H) := List.mem_map.2 ⟨v, List.mem_range.2 hv, rfl⟩
        rw [hA] at hmem
        have := sized_row hsz hts hds ht Try.underlying39 hmem
        rw [bytesInt] at this
        simp only [lits, List.length_map, List.length_take, List.length_drop, reachBytes] at this
        omega
    obtain ⟨xb, xo, sp⟩ := x
    have hsp : sp = none := by simpa [Addr.add] using World.cell?_spot (hrow 0 (by omega)).1
    subst hsp
    have e : ((⟨xb, xo, none⟩ : Addr).add v) = ⟨xb, xo + v, none⟩ := by
      by_cases h0 : v = 0 <;> simp [Addr.add, h0]
    rw [e] at hc
    refine ⟨xb, xo, A v, C v, rfl, by rw [hlen]; exact hc, ⟨rfl, fun i z hz => ?_, fun hA => ?_⟩, by rw [hlen]; omega, by rw [hlen]; exact h1, by omega⟩
    · rw [List.getElem?_take] at hz
      split at hz
      · rename_i hiL
        obtain ⟨y, hA⟩ : ∃ y, A v = some y := by
          cases hA : A v with
          | none => have := h5 hA; omega
          | some y => exact ⟨y, rfl⟩
        have hci := (h6 y hA).2 i (by omega)
        rw [List.getD_eq_getElem?_getD, hz] at hci
        obtain ⟨yb, yo, ysp⟩ := y
        have hc0 := (h6 _ hA).2 0 (by omega)
        have hsp : ysp = none := by simpa [Addr.add] using World.cell?_spot hc0
        subst hsp
        have e2 : ((⟨yb, yo, none⟩ : Addr).add i) = ⟨yb, yo + i, none⟩ := by
          by_cases h0 : i = 0 <;> simp [Addr.add, h0]
        rw [e2] at hci
        exact ⟨yb, yo, hA, hci⟩
      · cases hz
    · have := h5 hA
      rw [hlen]
      omega

end Go.Proofs.Ytjlfdkeklilafab

/-
  An append that leaves the list it began with as it was; lists of lists under stores.
-/
namespace Go.Proofs.Ytjlfdkeklilafab
open Go.RowKit

theorem grown_any {w w' : World} (h : w.grownBy w' none) (r : Option Nat) : w.grownBy w' r := ⟨h.os, h.tape, h.output, h.size, fun k hk _ => h.block k hk (by simp)⟩

/-- The row that a longer one in its block began with. -/
theorem own_front {w : World} {B g p c : Nat} {xs : List Value} {z : Value} (h : w.ownsRow B 3 1 (.slice (some ⟨g, 0, none⟩) (p + 1) c) (p + 1) (xs ++ [z])) (hx : xs.length = p) : w.ownsRow B 3 1 (.slice (some ⟨g, 0, none⟩) p c) p xs := by
  rcases h.2 with ⟨h', _⟩ | ⟨g', cap, cur, e, hB, hh, hc, hm, hs, ht⟩
  · cases h'
  · cases e
    refine ⟨by omega, .inr ⟨g, c, cur, rfl, hB, hh, by omega, hm, hs, ?_⟩⟩
    have e1 : cur.toList.take (p * 1) = (cur.toList.take ((p + 1) * 1)).take (p * 1) := by rw [List.take_take]; congr 1; omega
    rw [e1, ht, List.take_append_of_le_length (by omega), List.take_of_length_le (by omega)]

/-- 'append(v, z)' of a list of one's own: the list it began with reads as before. -/
theorem wpList_append_keep {W : World} {ops : Array Oper} {rest : List Oper} {o : Oper} {a : Act} {Q : Exit → Act → World → Prop} (hgd : o.guard = none) (s x : Operand)
    (ho : o.op = .call { callee := .builtin .append, args := #[s, x], argTypes := #[39, 39] }) (B p : Nat) (ao : Option Addr) (c : Nat) (xs : List Value) (z : Int)
    (hs : a.eval s = .slice ao p c) (hown : W.ownsRow B 3 1 (.slice ao p c) p xs) (ad : Addr) (hx : a.eval x = .slice (some ad) 1 1) (hnews : ∀ j u, [Value.int .i64 z][j]? = some u → W.cell? (ad.add j) = some u) (hp : p ≤ 17592186044000) (hB : B ≤ W.heap.size)
    (h : ∀ g' c' w', w'.ownsRow B 3 1 (.slice (some ⟨g', 0, none⟩) (p + 1) c') (p + 1) (xs ++ [.int .i64 z]) → w'.ownsRow B 3 1 (.slice ao p c) p xs → W.grownBy w' (Value.slice ao p c).ownBlock → (((Value.slice ao p c).ownBlock = some g' ∧ c' = c) ∨ W.heap.size ≤ g') → g' < w'.heap.size → wpList Try.prog ops Q rest (a.put o.dst (.slice (some ⟨g', 0, none⟩) (p + 1) c')) w') :
    wpList Try.prog ops Q (o :: rest) a W := by
  obtain ⟨i0, hi, hz0, hz1, hz2⟩ := info_parts Try.infoNum
  have hxl : xs.length = p := by have := hown.1; omega
  by_cases hroom : p + 1 ≤ c
  · obtain ⟨g, hg⟩ : ∃ g, ao = some ⟨g, 0, none⟩ := by
      rcases hown.2 with ⟨h', _⟩ | ⟨g, cap, cur, e, _⟩
      · cases h'; omega
      · cases e; exact ⟨g, rfl⟩
    subst hg
    refine wpList_append_own_spare (w := W) hgd s x 39 ho B 3 i0 1 Try.underlying39 hi hz1 g p c xs hs hown ad 1 1 [.int .i64 z] hx rfl hnews (by simp [Value.oneCell']) hroom ?_
    intro w' h2 h3
    exact h g c w' h2 (own_front h2 hxl) h3 (.inl ⟨rfl, rfl⟩) (World.ownsRow.lt h2 g rfl).2
  · refine wpList_append_grows W hgd s x 39 ho 3 i0 (.int .i64 0) 1 8 Try.underlying39 hi hz0 hz1 hz2 rfl (by decide) ao p c xs hs (fun e => ?_) (by omega) (fun b hb j u hj => ?_) ad 1 1 [.int .i64 z] hx rfl hnews (by simp [Value.oneCell']) (by omega) (by unfold maxLen; omega) (by omega) ?_
    · rcases hown.2 with ⟨h', h0⟩ | ⟨g, cap, cur, e', _⟩
      · cases h'; exact ⟨h0, rfl⟩
      · rw [e] at e'; cases e'
    · rcases hown.2 with ⟨h', h0⟩ | ⟨g, cap, cur, e', _⟩
      · rw [hb] at h'; cases h'
      · rw [hb] at e'
        cases e'
        have := World.ownsRow.cells hown (g := g) (by rw [hb]; rfl) j u hj
        exact this
    · intro v' w' h2 h3
      obtain ⟨g', c', rfl⟩ := own_succ h2
      have hlt := World.ownsRow.lt h2 g' rfl
      have h4 : w'.ownsRow B 3 1 (.slice (some ⟨g', 0, none⟩) (p + 1) c') (p + 1) (xs ++ [.int .i64 z]) := by
        rcases h2.2 with h' | ⟨g, cap, cur, e1, hgB, hr⟩
        · exact ⟨h2.1, .inl h'⟩
        · exact ⟨h2.1, .inr ⟨g, cap, cur, e1, Nat.le_trans hB hgB, hr⟩⟩
      exact h g' c' w' h4 (hown.kept h3 (by cases (Value.slice ao p c).ownBlock <;> simp)) (grown_any h3 _) (.inr hlt.1) hlt.2

/-- The same, however much longer. -/
theorem own_prefix {w : World} {B g p i c : Nat} {xs ys : List Value} (h : w.ownsRow B 3 1 (.slice (some ⟨g, 0, none⟩) (p + i) c) (p + i) (xs ++ ys)) (hx : xs.length = p) : w.ownsRow B 3 1 (.slice (some ⟨g, 0, none⟩) p c) p xs := by
  rcases h.2 with ⟨h', _⟩ | ⟨g', cap, cur, e, hB, hh, hc, hm, hs, ht⟩
  · cases h'
  · cases e
    refine ⟨by omega, .inr ⟨g, c, cur, rfl, hB, hh, by omega, hm, hs, ?_⟩⟩
    have e1 : cur.toList.take (p * 1) = (cur.toList.take ((p + i) * 1)).take (p * 1) := by rw [List.take_take]; congr 1; omega
    rw [e1, ht, List.take_append_of_le_length (by omega), List.take_of_length_le (by omega)]

section
variable {w w' : World} {B : Nat} {v : Value} {vs : List Value} {ls : List (List Int)}

/-- b is a block of one of the lists. -/
def inV (vs : List Value) (b : Nat) : Prop := ∃ (u : Nat) (x : Value), vs[u]? = some x ∧ x.ownBlock = some b

/-- What is not written stays. -/
theorem RowsZ.kept (h : RowsZ w B v vs ls) (hb : ∀ b, (v.ownBlock = some b ∨ inV vs b) → b < w.heap.size → w'.heap[b]? = w.heap[b]?) : RowsZ w' B v vs ls :=
  ⟨h.len, row_same h.outer fun g hg _ hl => hb g (.inl hg) hl, fun u x l hx hl => (h.row u x l hx hl).same fun g hg hlt => hb g (.inr ⟨u, x, hx, hg⟩) hlt, h.apart, h.far⟩

/-- A store into list u. -/
theorem RowsZ.write {u g p c i : Nat} {l : List Int} (h : RowsZ w B v vs ls) (hx : vs[u]? = some (.slice (some ⟨g, 0, none⟩) p c)) (hl : ls[u]? = some l) (hp : l.length = p) (hi : i < p) (z : Int) :
    (∃ y : Int, w.cell? ⟨g, i, none⟩ = some (.int .i64 y)) ∧ w.frozen? ⟨g, i, none⟩ = false ∧ RowsZ (w.setCell ⟨g, i, none⟩ (.int .i64 z)) B v vs (ls.set u (l.set i z)) ∧ B ≤ g := by
  have ho := h.row u _ l hx hl
  have hul := (List.getElem?_eq_some_iff.1 hl).1
  unfold OwnZ at ho
  rw [hp] at ho
  obtain ⟨y, hy⟩ : ∃ y, l[i]? = some y := ⟨_, List.getElem?_eq_getElem (by omega)⟩
  have hc := World.ownsRow.cells ho (g := g) rfl i (.int .i64 y) (by rw [List.getElem?_map, hy]; rfl)
  have ea : ((⟨g, 0, none⟩ : Addr).add i) = ⟨g, i, none⟩ := by
    by_cases h0 : i = 0 <;> simp [Addr.add, h0]
  rw [ea] at hc
  have hst := (ho.stored i (.int .i64 z)).1
  have hoth : ∀ b, b ≠ g → (w.setCell ⟨g, i, none⟩ (.int .i64 z)).heap[b]? = w.heap[b]? := fun b hb => heap_setCell_other w ⟨g, i, none⟩ b _ hb
  refine ⟨⟨y, hc⟩, ho.frozenAt i, ⟨by simp [h.len], by rw [List.length_set]; exact row_same h.outer fun b hb _ _ => hoth b (fun e => h.far u _ g hx rfl (by rw [← e]; exact hb)), fun a q k ha hk => ?_, h.apart, h.far⟩, (World.ownsRow.lt ho g rfl).1⟩
  rw [List.getElem?_set] at hk
  by_cases e : u = a
  · subst e
    rw [if_pos rfl, if_pos hul] at hk
    rw [hx] at ha
    cases ha
    cases hk
    unfold OwnZ
    rw [List.length_set, hp, List.map_set]
    exact hst
  · rw [if_neg e] at hk
    exact (h.row a q k ha hk).same fun b hb _ => hoth b (fun e2 => h.apart u a _ q g e hx ha rfl (by rw [← e2]; exact hb))
end

end Go.Proofs.Ytjlfdkeklilafab

/-
  Around: the program.
-/
namespace Go.Proofs.Ytjlfdkeklilafab
open Go.RowKit Go.Sort

/-- What Around answers. -/
def AroundP (n : Int) (es : List (Int × Int)) (ls : List (List Int)) (w : World) (e : Ending) (w' : World) : Prop :=
  Below w.heap.size w w' ∧ (((Ro.check n es ls).2 ≠ 0 ∧ e = .returned (.tuple #[.slice none 0 0, .int .i64 (Ro.check n es ls).2])) ∨
    ((Ro.check n es ls).2 = 0 ∧ ∃ v vs, e = .returned (.tuple #[v, .int .i64 0]) ∧ RowsZ w' w.heap.size v vs (Ro.around es ls)))

/-- What is read while a list is told: the row's place, the graph. -/
structure AS (V : World) (w : World) (G k gr p : Nat) (n : Int) (ao : Option Addr) (m ca : Nat) : Prop where
  row : V.cell? ⟨G, k, none⟩ = some (.slice (some ⟨gr, 0, none⟩) p p)
  n0 : V.cell? ⟨w.heap.size, 0, none⟩ = some (.int .i64 n)
  e0 : V.cell? ⟨w.heap.size, 1, none⟩ = some (.slice ao m ca)
  far : gr ≠ G ∧ w.heap.size < gr
  low : Below w.heap.size w V

section
variable {V V' w : World} {G k gr p m ca : Nat} {n : Int} {ao : Option Addr}
theorem AS.later (h : AS V w G k gr p n ao m ca) (hb : Below V.heap.size V V') : AS V' w G k gr p n ao m ca :=
  ⟨(hb.cell (p := ⟨G, k, none⟩) (block_lt_of_cell h.row)).trans h.row, (hb.cell (p := ⟨w.heap.size, 0, none⟩) (block_lt_of_cell h.n0)).trans h.n0, (hb.cell (p := ⟨w.heap.size, 1, none⟩) (block_lt_of_cell h.e0)).trans h.e0, h.far, h.low.trans (hb.mono h.low.size)⟩
theorem AS.store (h : AS V w G k gr p n ao m ca) (i : Nat) (x : Value) : AS (V.setCell ⟨gr, i, none⟩ x) w G k gr p n ao m ca := by
  have h1 := h.far.1
  have h2 := h.far.2
  exact ⟨(World.cell?_setCell_other _ _ _ _ (fun e => by simp only [Addr.mk.injEq] at e; omega)).trans h.row, (World.cell?_setCell_other _ _ _ _ (fun e => by simp only [Addr.mk.injEq] at e; omega)).trans h.n0, (World.cell?_setCell_other _ _ _ _ (fun e => by simp only [Addr.mk.injEq] at e; omega)).trans h.e0, h.far, h.low.trans (below_setCell (g := gr) _ (by omega))⟩
end

theorem frozen_later {V V' : World} {g i : Nat} (hb : Below V.heap.size V V') (hg : g < V.heap.size) : V'.frozen? ⟨g, i, none⟩ = V.frozen? ⟨g, i, none⟩ := by
  unfold World.frozen?
  rw [hb.block g hg]

/-- The first lists are laid, and list k as far as it goes. -/
def Ro.lay (f : List Int → List Int) (ls : List (List Int)) (k : Nat) (m : List Int) : List (List Int) := (Ro.fill f ls k).set k m
theorem Ro.lay_at {f : List Int → List Int} {ls : List (List Int)} {k : Nat} {m : List Int} (hk : k < ls.length) : (Ro.lay f ls k m)[k]? = some m := by
  unfold Ro.lay
  rw [List.getElem?_set, if_pos rfl, if_pos (by rw [Ro.fill_len f ls (by omega)]; exact hk)]
theorem Ro.lay_set {f : List Int → List Int} {ls : List (List Int)} {k : Nat} {m m' : List Int} : (Ro.lay f ls k m).set k m' = Ro.lay f ls k m' := by
  unfold Ro.lay
  rw [List.set_set]
theorem Ro.lay_done {f : List Int → List Int} {ls : List (List Int)} {k : Nat} {l : List Int} (h : ls[k]? = some l) : Ro.lay f ls k (f l) = Ro.fill f ls (k + 1) := Ro.fill_set h

set_option maxRecDepth 100000 in
set_option maxHeartbeats 8000000 in
theorem around_any (n : Int) (ao : Option Addr) (ca : Nat) (es : List (Int × Int)) (xo : Option Addr) (xc : Nat) (ls : List (List Int)) (w : World) (he : EdgesAt w ao es) (hl : es.length ≤ 4611686018427387904) (hx : RwsAt w xo ls) :
    Calls Try.prog 8 #[graphVal n ao es.length ca, .slice xo ls.length xc] w (AroundP n es ls w) := by
  obtain ⟨i0, hi, hz0, hz1, hz2⟩ := info_parts Try.infoRow
  obtain ⟨i1, hi1, hy0, hy1, hy2⟩ := info_parts Try.infoNum
  have hb0 : Below w.heap.size w (w.alloc (.cells #[.int .i64 n, .slice ao es.length ca] 24)) := (Below.refl _ _).alloc (Nat.le_refl _) _
  have HCK := Nu.hid (rcheck_any n ao ca es xo xc ls _ (he.later hb0) hl (hx.later hb0))
  have HX := Nu.hid hx
  have HE := Nu.hid he
  have HB0 := Nu.hid hb0
  unfold graphVal CkPost at HCK
  unfold graphVal
  clear he hx hb0
  by_cases hc : (Ro.check n es ls).2 = 0
  · have hrot := Ro.check_iff.1 hc
    have hval := Si.valid_iff.1 hrot.val
    have hlo := hval.lo
    have hhi := hval.hi
    have hfew := hval.few
    have hlen := hrot.len
    have HROT := Nu.hid hrot
    have HC := Nu.hid hc
    rw [hc] at HCK
    obtain ⟨cv, hcv⟩ : ∃ cv, cv = (Ro.check n es ls).1 := ⟨_, rfl⟩
    rw [← hcv] at HCK
    obtain ⟨N, hN⟩ : ∃ N, N = ls.length := ⟨_, rfl⟩
    rw [← hN] at HCK hlen ⊢
    obtain rfl : n = (N : Int) := hlen.symm
    have HN := Nu.hid hN
    have HVAL := Nu.hid hval
    clear hc hrot hval hcv hN hlen
    go_enter Try.func8, Try.ntmps8
    go_wp2_with (go_at_call 10; refine HCK.out.mono ?_; rintro e w1 ⟨rfl, hb⟩; refine Hid.out ?_)
    refine Nu.hid ?_
    have hG0 : w1.heap[w.heap.size]? = some (.cells #[.int .i64 (N : Int), .slice ao es.length ca] 24 (0, 0)) := (hb.block _ (by simp)).trans (heap_alloc_new w _)
    have hsz1 : w.heap.size < w1.heap.size := lt_of_block hG0
    have HB1 := Nu.hid (HB0.out.trans (hb.mono HB0.out.size))
    have HG0 := Nu.hid hG0
    clear hb hG0
    go_wp2_with (at_make; refine wpList_make_full _ rfl _ _ 25 rfl w1.heap.size 39 i0 (.slice none 0 0) 1 Try.underlying25 hi hz0 hz1 _ _ _ _ N rfl rfl rfl rfl (by rw [hz2]; omega) (by unfold maxLen; omega) (Nat.le_refl _) ?_; refine Hid.out ?_)
    refine Nu.hid ?_
    intro w2 hrow hg2
    have hmade := RowsZ.made hrow
    have hmd2 : RowsZ w2 w1.heap.size (.slice (some ⟨w1.heap.size, 0, none⟩) N N) (List.replicate N (.slice none 0 0)) (Ro.fill (Ro.toL es) ls 0) := by
      rw [Ro.fill_zero, ← HN.out]
      exact hmade
    have hb2 : Below w1.heap.size w1 w2 := (Below.refl _ _).grown hg2 (Nat.le_refl _) (fun j hj => by cases hj)
    have HM := Nu.hid hmd2
    have HB2 := Nu.hid (HB1.out.trans (hb2.mono HB1.out.size))
    have HG2 := Nu.hid ((hb2.block _ hsz1).trans HG0.out)
    clear hrow hg2 hb2 hmade hmd2 HG0
    go_wp2
    go_loopw [27] (fun c wr => ∃ (k : Nat) (vs : List Value), k ≤ N ∧ c = .int .i64 (k : Int) ∧ RowsZ wr w1.heap.size (.slice (some ⟨w1.heap.size, 0, none⟩) N N) vs (Ro.fill (Ro.toL es) ls k) ∧ wr.heap[w.heap.size]? = some (.cells #[.int .i64 (N : Int), .slice ao es.length ca] 24 (0, 0)) ∧ Below w.heap.size w wr) (fun c _ => N - (intOf c).toNat)
    case atStart => exact ⟨0, _, Nat.zero_le _, rfl, HM.out, HG2.out, HB2.out⟩
    case round =>
      clear HM HB2 HG2
      obtain ⟨k, vs, hk, rfl, hr, hg, hb⟩ := hrel
      have HR := Nu.hid hr
      have HB := Nu.hid hb
      have HG := Nu.hid hg
      have hgs := lt_of_block hg
      have hrs := (World.ownsRow.lt hr.outer w1.heap.size rfl).2
      clear hr hb hg
      by_cases hlt : k < N
      · have hlti : (k : Int) < (N : Int) := by omega
        have hk0 : (0 : Int) ≤ (k : Int) := by omega
        obtain ⟨l, hlk⟩ : ∃ l, ls[k]? = some l := ⟨_, List.getElem?_eq_getElem (by have := HN.out; omega)⟩
        obtain ⟨b, o, A, C, rfl, hcell, hL, hln, -⟩ := HX.out k l hlk
        have hbl : b < w.heap.size := block_lt_of_cell hcell
        have hcr := (HB.out.cell (p := ⟨b, o + k, none⟩) hbl).trans hcell
        have HL := Nu.hid hL
        have HLK := Nu.hid hlk
        obtain ⟨p1, hp1⟩ : ∃ p1, l.length = p1 := ⟨_, rfl⟩
        rw [hp1] at hcr hln
        have HP1 := Nu.hid hp1
        clear hcell hL hlk hp1
        obtain ⟨W0, rfl⟩ : ∃ W0, W0 = wr := ⟨_, rfl⟩
        go_wp2_with (at_make; refine wpList_make_full _ rfl _ _ 39 rfl W0.heap.size 3 i1 (.int .i64 0) 1 Try.underlying39 hi1 hy0 hy1 _ _ _ _ p1 rfl rfl rfl rfl (by rw [hy2]; omega) (by unfold maxLen; omega) (Nat.le_refl _) ?_; refine Hid.out ?_)
        refine Nu.hid ?_
        intro w3 hrow3 hg3
        rw [made_zeros] at hrow3
        have hown : OwnZ w3 W0.heap.size (.slice (some ⟨W0.heap.size, 0, none⟩) p1 p1) (List.replicate p1 0) := by
          unfold OwnZ
          rw [List.length_replicate]
          exact hrow3
        have hb3 : Below W0.heap.size W0 w3 := (Below.refl _ _).grown hg3 (Nat.le_refl _) (fun j hj => by cases hj)
        obtain ⟨⟨y, hy⟩, hfr, hst, hbs⟩ := HR.out.store (Ro.fill_len (Ro.toL es) ls (by have := HN.out; omega) |>.trans HN.out.symm) hlt hb3 hown (by omega)
        have hvk : k < vs.length := by rw [HR.out.len, Ro.fill_len (Ro.toL es) ls (by have := HN.out; omega), ← HN.out]; exact hlt
        have hsg : (w3.setCell ⟨w1.heap.size, k, none⟩ (.slice (some ⟨W0.heap.size, 0, none⟩) p1 p1)).heap[w.heap.size]? = some (.cells #[.int .i64 (N : Int), .slice ao es.length ca] 24 (0, 0)) := by
          rw [heap_setCell_other _ _ _ _ (by show w.heap.size ≠ w1.heap.size; omega)]
          exact (hb3.block _ hgs).trans HG.out
        have hst2 : RowsZ (w3.setCell ⟨w1.heap.size, k, none⟩ (.slice (some ⟨W0.heap.size, 0, none⟩) p1 p1)) w1.heap.size (.slice (some ⟨w1.heap.size, 0, none⟩) N N) (vs.set k (.slice (some ⟨W0.heap.size, 0, none⟩) p1 p1)) (Ro.lay (Ro.toL es) ls k (Ro.toTo es l 0)) := by
          rw [Ro.toTo_zero, HP1.out]
          exact hst
        have hvs : (vs.set k (.slice (some ⟨W0.heap.size, 0, none⟩) p1 p1))[k]? = some (.slice (some ⟨W0.heap.size, 0, none⟩) p1 p1) := by rw [List.getElem?_set, if_pos rfl, if_pos hvk]
        have HVS := Nu.hid hvs
        have HST := Nu.hid hst2
        have HSG := Nu.hid hsg
        have HBS := Nu.hid (HB.out.trans (hbs.mono (by omega)))
        clear hrow3 hg3 hown hb3 hst hbs hst2 hsg hvs
        go_wp2
        generalize vs.set k (.slice (some ⟨W0.heap.size, 0, none⟩) p1 p1) = vs' at *
        go_loopw [40] (fun c wr => ∃ i : Nat, i ≤ p1 ∧ c = .int .i64 (i : Int) ∧ RowsZ wr w1.heap.size (.slice (some ⟨w1.heap.size, 0, none⟩) N N) vs' (Ro.lay (Ro.toL es) ls k (Ro.toTo es l i)) ∧ wr.heap[w.heap.size]? = some (.cells #[.int .i64 (N : Int), .slice ao es.length ca] 24 (0, 0)) ∧ Below w.heap.size w wr) (fun c _ => p1 - (intOf c).toNat)
        case atStart => exact ⟨0, Nat.zero_le _, rfl, HST.out, HSG.out, HBS.out⟩
        case round =>
          clear HST HSG HBS hy hfr hcr
          obtain ⟨i, hip, rfl, hri, hgi, hbi⟩ := hrel
          have HRI := Nu.hid hri
          have HGI := Nu.hid hgi
          have HBI := Nu.hid hbi
          clear hri hgi hbi
          by_cases hil : i < p1
          · have hili : (i : Int) < (p1 : Int) := by omega
            have hi00 : (0 : Int) ≤ (i : Int) := by omega
            obtain ⟨x, hxi⟩ : ∃ x, l[i]? = some x := ⟨_, List.getElem?_eq_getElem (by have := HP1.out; omega)⟩
            obtain ⟨j, rfl, hj, -⟩ := HROT.out.half HLK.out hxi
            obtain ⟨lb, lo', rfl, lc⟩ := (HL.out.later HBI.out).elem hxi
            have hkl : k < ls.length := by have := HN.out; omega
            have hlen : (Ro.toTo es l i).length = p1 := by rw [Ro.toTo_len es l (by have := HP1.out; omega)]; exact HP1.out
            obtain ⟨⟨y, hy⟩, hfr, hwr, -⟩ := HRI.out.write HVS.out (Ro.lay_at hkl) hlen hil (Cs.to es j : Int)
            have hrowc := World.ownsRow.cells HRI.out.outer (g := w1.heap.size) rfl k _ HVS.out
            have ea : ((⟨w1.heap.size, 0, none⟩ : Addr).add k) = ⟨w1.heap.size, k, none⟩ := by
              by_cases h0 : k = 0 <;> simp [Addr.add, h0]
            rw [ea] at hrowc
            obtain ⟨g0, g1, -⟩ := pair_cells HGI.out
            have hfar : W0.heap.size ≠ w1.heap.size ∧ w.heap.size < W0.heap.size := ⟨by omega, by omega⟩
            have HAS : Hid (AS wr w w1.heap.size k W0.heap.size p1 (N : Int) ao es.length ca) := ⟨hrowc, g0, g1, hfar, HBI.out⟩
            have HLT := Nu.hid (fun V (hV : AS V w w1.heap.size k W0.heap.size p1 (N : Int) ao es.length ca) => leadsTo_any N ao ca es j V (HE.out.later hV.low) HVAL.out hj)
            have HS : Hid (∀ V, AS V w w1.heap.size k W0.heap.size p1 (N : Int) ao es.length ca → V.cell? ⟨w1.heap.size, k, none⟩ = some (.slice (some ⟨W0.heap.size, 0, none⟩) p1 p1) ∧ V.cell? ⟨w.heap.size, 0, none⟩ = some (.int .i64 (N : Int)) ∧ V.cell? ⟨w.heap.size, 1, none⟩ = some (.slice ao es.length ca) ∧ AS V w w1.heap.size k W0.heap.size p1 (N : Int) ao es.length ca) := fun V hV => ⟨hV.row, hV.n0, hV.e0, hV⟩
            have HAD : Hid (AS wr.drew w w1.heap.size k W0.heap.size p1 (N : Int) ao es.length ca) := HAS.out.later (Below.refl _ _).drew
            have HY := Nu.hid hy
            have HFR := Nu.hid hfr
            have HXI := Nu.hid hxi
            clear hwr hrowc ea hfar g0 g1 hy hfr hxi hlen
            go_wp2_with fail
            go_region_held3 (fun V => V.cell? ⟨w1.heap.size, k, none⟩ = some (.slice (some ⟨W0.heap.size, 0, none⟩) p1 p1) ∧ V.cell? ⟨w.heap.size, 0, none⟩ = some (.int .i64 (N : Int)) ∧ V.cell? ⟨w.heap.size, 1, none⟩ = some (.slice ao es.length ca) ∧ AS V w w1.heap.size k W0.heap.size p1 (N : Int) ao es.length ca)
              (first | exact HS.out _ (by first | assumption | exact HAD.out) | exact HS.out _ (AS.store (by first | assumption | exact HAD.out) _ _) | exact HS.out _ ((AS.store (by assumption) _ _).later (Below.refl _ _).drew))
              ((go_at_call 24; refine (HLT.out _ (by first | assumption | exact HAD.out)).mono ?_; rintro e V1 ⟨rfl, hb1⟩; have has1 := HAD.out.later hb1; have hy1 := (hb1.cell (p := ⟨W0.heap.size, i, none⟩) (block_lt_of_cell HY.out)).trans HY.out; have hfr1 : V1.frozen? ⟨W0.heap.size, i, none⟩ = false := (frozen_later hb1 (block_lt_of_cell HY.out)).trans HFR.out))
            have hbV : Below wr.heap.size wr V1 := ((Below.refl wr.heap.size wr).drew).trans hb1
            obtain ⟨-, -, hw2, -⟩ := (HRI.out.later hbV).write HVS.out (Ro.lay_at hkl) (by rw [Ro.toTo_len es l (by have := HP1.out; omega)]; exact HP1.out) hil (Cs.to es j : Int)
            rw [Ro.lay_set, Ro.toTo_set HXI.out] at hw2
            have HW2 := Nu.hid hw2
            have HG2 : Hid ((V1.setCell ⟨W0.heap.size, i, none⟩ (.int .i64 (Cs.to es j : Int))).heap[w.heap.size]? = some (.cells #[.int .i64 (N : Int), .slice ao es.length ca] 24 (0, 0))) := by
              show _ = _
              rw [heap_setCell_other _ _ _ _ (by show w.heap.size ≠ W0.heap.size; omega)]
              exact (hbV.block _ (lt_of_block HGI.out)).trans HGI.out
            have HB3 := Nu.hid ((HBI.out.trans (hbV.mono HBI.out.size)).trans (below_setCell (g := W0.heap.size) (j := i) (.int .i64 (Cs.to es j : Int)) (by omega)))
            clear hw2 hbV hb1 has1 hy1 hfr1
            go_wp2
            go_roundw
            case rel => exact ⟨i + 1, by omega, by go_num, HW2.out, HG2.out, HB3.out⟩
            case measure => simp [intOf]; omega
          · have hili : ¬ (i : Int) < (p1 : Int) := by omega
            obtain rfl : i = p1 := by omega
            have HR3 : Hid (RowsZ wr w1.heap.size (.slice (some ⟨w1.heap.size, 0, none⟩) N N) vs' (Ro.fill (Ro.toL es) ls (k + 1))) := by
              have h1 := HRI.out
              rw [← HP1.out, Ro.toTo_all, Ro.lay_done HLK.out] at h1
              exact h1
            go_wp2
            go_roundw
            case rel => exact ⟨k + 1, vs', by omega, by go_num, HR3.out, HGI.out, HBI.out⟩
            case measure => simp [intOf]; omega
      · have hlti : ¬ (k : Int) < (N : Int) := by omega
        obtain rfl : k = N := by omega
        go_wp2
        go_ret2
        refine ⟨HB.out, .inr ⟨HC.out, _, vs, rfl, ?_⟩⟩
        have h1 := HR.out
        rw [HN.out, Ro.fill_all] at h1
        rw [HN.out]
        exact h1.lower (by omega)
  · obtain ⟨cv, hcv⟩ : ∃ cv, cv = (Ro.check n es ls).1 := ⟨_, rfl⟩
    obtain ⟨cc, hcc⟩ : ∃ cc, cc = (Ro.check n es ls).2 := ⟨_, rfl⟩
    rw [← hcv, ← hcc] at HCK
    rw [← hcc] at hc
    have HCC := Nu.hid hcc
    have j1 : (cc != 0) = true := by simp [hc]
    have HNC := Nu.hid hc
    clear hcv hcc hc
    go_enter Try.func8, Try.ntmps8
    go_wp2_with (go_at_call 10; refine HCK.out.mono ?_; rintro e w1 ⟨rfl, hb⟩; refine Hid.out ?_)
    refine Nu.hid ?_
    have HB1 := Nu.hid (HB0.out.trans (hb.mono HB0.out.size))
    clear hb
    go_wp2
    go_ret2
    refine ⟨HB1.out, .inl ⟨by rw [← HCC.out]; exact HNC.out, by rw [← HCC.out]; rfl⟩⟩

end Go.Proofs.Ytjlfdkeklilafab

/-
  Numbers of 64 bits; how many cells an edge and an int take.
-/
namespace Go.Proofs.Ytjlfdkeklilafab
open Go.RowKit

theorem cellsEdge : Try.prog.cellsOf 47 = 2 := by kernel_rfl
theorem cellsIntK : Try.prog.cellsOf 3 = 1 := by kernel_rfl
/-- Both numbers are of 64 bits. -/
def In64 (e : Int × Int) : Prop := (-9223372036854775808 ≤ e.1 ∧ e.1 ≤ 9223372036854775807) ∧ -9223372036854775808 ≤ e.2 ∧ e.2 ≤ 9223372036854775807
theorem wf64 {x : Int} (h : -9223372036854775808 ≤ x ∧ x ≤ 9223372036854775807) : (Lit.int .i64 x).wf = true := WalkArith.wf_i64 (by omega)

end Go.Proofs.Ytjlfdkeklilafab
