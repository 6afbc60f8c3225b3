/-
  Proved: for every graph and every list of pairs the law CompsMemory answers true, and both read afterwards as before. No condition.
-/
import Derived.Test.YtoaaihbeehpgfabCoFixed
import Derived.Test.YtoaaihbeehpgfabCoMany
import Derived.Test.YtoaaihbeehpgfabCoApart
import Derived.Test.YtoaaihbeehpgfabCoSameL
import Derived.Test.YtoaaihbeehpgfabCoPair
import Derived.Test.YtoaaihbeehpgfabSiEq
import Derived.Test.YtoaaihbeehpgfabSiOwn
import Derived.Deep.RegionHeld3
import Derived.Deep.CutBlock
import Derived.Deep.CutRange
namespace Go.Proofs.Ytoaaihbeehpgfab
open Go.ChangeShapes Go.WideShapes Go.ChangeAt Go.RowKit
namespace lawMemory

/-- h and its edges: those of the graph, and one more behind them. -/
structure Copied (n : Int) (es : List (Int × Int)) (k : Nat) (w1 : World) (H gM : Nat) (V : World) : Prop where
  box : V.heap[H]? = some (.cells #[.int .i64 n, .slice (some ⟨gM, 0, none⟩) k (es.length + 2)] 24 (0, 0))
  own : OwnE V w1.heap.size (.slice (some ⟨gM, 0, none⟩) (es.length + 1) (es.length + 2)) (es ++ [(77, 78)])
  hi : w1.heap.size ≤ H
  ne : H ≠ gM
  below : Below w1.heap.size w1 V

theorem own_blk {w : World} {B g k c : Nat} {es : List (Int × Int)} (h : OwnE w B (.slice (some ⟨g, 0, none⟩) k c) es) : B ≤ g ∧ g < w.heap.size := World.ownsRow.lt h g rfl

theorem own_cells {w : World} {B g c : Nat} {es : List (Int × Int)} {p : Int × Int} (h : OwnE w B (.slice (some ⟨g, 0, none⟩) (es.length + 1) c) (es ++ [p])) : EdgesAt w (some ⟨g, 0, none⟩) es ∧ w.cell? ⟨g, es.length * 2, none⟩ = some (.int .i64 p.1) ∧ w.cell? ⟨g, es.length * 2 + 1, none⟩ = some (.int .i64 p.2) := by
  obtain ⟨ao, cap, e, _, _, hat, _⟩ := h.form
  rw [List.length_append, List.length_singleton] at e
  cases e
  refine ⟨fun j q hj => hat j q ?_, ?_⟩
  · rw [List.getElem?_append_left (List.getElem?_eq_some_iff.1 hj).1]
    exact hj
  · obtain ⟨b, o, e, h0, h1⟩ := hat es.length p (by simp)
    cases e
    simp only [Nat.zero_add] at h0 h1
    exact ⟨h0, h1⟩

theorem own_same {w w' : World} {B : Nat} {v : Value} {es : List (Int × Int)} (h : OwnE w B v es) (hk : ∀ g, v.ownBlock = some g → w'.heap[g]? = w.heap[g]?) : OwnE w' B v es := by
  refine ⟨h.1, ?_⟩
  rcases h.2 with h | ⟨g, cap, cur, e, hgB, hh, hr⟩
  · exact .inl h
  · exact .inr ⟨g, cap, cur, e, hgB, (hk g (by rw [e]; rfl)).trans hh, hr⟩

theorem Copied.later {n : Int} {es : List (Int × Int)} {k : Nat} {w1 : World} {H gM : Nat} {V V' : World} (h : Copied n es k w1 H gM V) (hb : Below V.heap.size V V') : Copied n es k w1 H gM V' :=
  ⟨(hb.block H (lt_of_block h.box)).trans h.box, own_same h.own (fun g hg => by
    obtain rfl : gM = g := by simpa [Value.ownBlock] using hg
    exact hb.block gM (own_blk h.own).2), h.hi, h.ne, h.below.trans (hb.mono h.below.size)⟩

theorem hp_new {W : World} {o : Obj} {k : Nat} (h : W.heap.size = k) : (W.alloc o).heap[k]? = some o := by
  subst h
  exact heap_alloc_new W o
theorem hp_drew (W : World) : W.drew.heap = W.heap := rfl
theorem hp_old {W : World} {o : Obj} {k : Nat} (h : k < W.heap.size) : (W.alloc o).heap[k]? = W.heap[k]? := Below.heap_alloc W o k h

/-- h is stored into its box. -/
theorem fin_set {n : Int} {es : List (Int × Int)} {w1 V : World} {H gM : Nat} {a b : Value} (hq : V.heap[H]? = some (.cells #[a, b] 24 (0, 0))) (ho : OwnE V w1.heap.size (.slice (some ⟨gM, 0, none⟩) (es.length + 1) (es.length + 2)) (es ++ [(77, 78)])) (hH : w1.heap.size ≤ H) (hne : H ≠ gM) (hb : Below w1.heap.size w1 V) :
    Copied n es (es.length + 1) w1 H gM ((V.setCell ⟨H, 0, none⟩ (.int .i64 n)).setCell ⟨H, 1, none⟩ (.slice (some ⟨gM, 0, none⟩) (es.length + 1) (es.length + 2))) := by
  have h1 := heap_setCell_same V H 0 _ _ (.int .i64 n) hq
  have h2 := heap_setCell_same _ H 1 _ _ (.slice (some ⟨gM, 0, none⟩) (es.length + 1) (es.length + 2)) h1
  refine ⟨by rw [h2]; simp, own_same ho (fun g hg => ?_), hH, hne, (hb.setCell (p := ⟨H, 0, none⟩) hH _).setCell (p := ⟨H, 1, none⟩) hH _⟩
  obtain rfl : gM = g := by simpa [Value.ownBlock] using hg
  rw [heap_setCell_other _ ⟨H, 1, none⟩ gM _ (Ne.symm hne), heap_setCell_other _ ⟨H, 0, none⟩ gM _ (Ne.symm hne)]

theorem fin_new {n : Int} {es : List (Int × Int)} {w1 V : World} {H gM : Nat} (hH : V.heap.size = H) (ho : OwnE V w1.heap.size (.slice (some ⟨gM, 0, none⟩) (es.length + 1) (es.length + 2)) (es ++ [(77, 78)])) (hb : Below w1.heap.size w1 V) :
    Copied n es (es.length + 1) w1 H gM (V.alloc (.cells #[.int .i64 n, .slice (some ⟨gM, 0, none⟩) (es.length + 1) (es.length + 2)] 24)) := by
  subst hH
  have hl := (own_blk ho).2
  exact ⟨heap_alloc_new V _, own_same ho (fun g hg => by
    obtain rfl : gM = g := by simpa [Value.ownBlock] using hg
    exact Below.heap_alloc V _ gM hl), hb.size, by omega, hb.alloc hb.size _⟩

theorem edge_news {U : World} {y : Addr} {es : List (Int × Int)} (he : EdgesAt U (some y) es) : ∀ j u, (flatE es)[j]? = some u → U.cell? (y.add j) = some u := by
  intro j u hj
  have hjl := (List.getElem?_eq_some_iff.1 hj).1
  rw [flatE_length] at hjl
  obtain ⟨p, hp⟩ : ∃ p, es[j / 2]? = some p := ⟨_, List.getElem?_eq_getElem (by omega)⟩
  obtain ⟨b, o, e, c0, c1⟩ := he (j / 2) p hp
  cases e
  obtain ⟨f0, f1⟩ := flatE_at es (j / 2) p hp
  have ea : ((⟨b, o, none⟩ : Addr).add j) = ⟨b, o + j, none⟩ := by
    by_cases h0 : j = 0 <;> simp [Addr.add, h0]
  rw [ea]
  by_cases hm : j % 2 = 0
  · have e : j / 2 * 2 = j := by omega
    rw [e] at f0 c0
    rw [f0] at hj
    cases hj
    exact c0
  · have e : j / 2 * 2 + 1 = j := by omega
    rw [e] at f1
    have e3 : o + j / 2 * 2 + 1 = o + j := by omega
    rw [e3] at c1
    rw [f1] at hj
    cases hj
    exact c1

theorem edge_one (es : List (Int × Int)) : ∀ u ∈ flatE es, u.oneCell' = true := by
  intro u hu
  unfold flatE at hu
  obtain ⟨p, _, hp⟩ := List.mem_flatMap.1 hu
  simp at hp
  rcases hp with rfl | rfl <;> rfl

theorem own_made {W : World} {B k : Nat} {cs : Array Value} {cap : Nat} (h : W.heap.size = k) (hB : B ≤ k) (hm : cap ≤ maxLen) (hs : cs.size = cap * 2) : (W.alloc (.cells cs 28)).ownsRow B 28 2 (.slice (some ⟨k, 0, none⟩) 0 cap) 0 [] := by
  subst h
  exact World.ownsRow_made W cs cap hB hm hs

theorem own_drew {W : World} {B k c : Nat} {t : TypeId} {v : Value} {l : List Value} (h : W.ownsRow B t k v c l) : W.drew.ownsRow B t k v c l := h

/-- 'append(make(..), es...)': there is room. -/
theorem wp_copy_room {U w1 : World} {o : Oper} {a : Act} {K : Act → World → Prop} {Q : Exit → Act → World → Prop} (s x : Operand) (ho : o.op = .call { callee := .builtin .append, args := #[s, x], argTypes := #[22, 22] }) (es : List (Int × Int)) (ao : Option Addr) (ca g : Nat)
    (hs : a.eval s = .slice (some ⟨g, 0, none⟩) 0 (es.length + 2)) (hx : a.eval x = .slice ao es.length ca) (hown : U.ownsRow w1.heap.size 28 2 (.slice (some ⟨g, 0, none⟩) 0 (es.length + 2)) 0 []) (he : EdgesAt U ao es) (hn : ao = none → es = [] ∧ ca = 0) (hU : Below w1.heap.size w1 U)
    (h : ∀ w', OwnE w' w1.heap.size (.slice (some ⟨g, 0, none⟩) es.length (es.length + 2)) es → U.grownBy w' (some g) → Below w1.heap.size w1 w' → K (a.put o.dst (.slice (some ⟨g, 0, none⟩) es.length (es.length + 2))) w') : o.wp Try.prog a U K Q := by
  obtain ⟨i2, hi2, hx0, hx1, hx2⟩ := info_parts Try.infoEdge
  have hgB := (World.ownsRow.lt hown g rfl).1
  rcases ao with _ | y
  · obtain ⟨rfl, rfl⟩ := hn rfl
    unfold Oper.wp
    simp only [execOp, ho, resolve, invoke, builtin, Sem.run_bind, Sem.run_pure, Result.andThen_ok, List.map_toArray, List.map_cons, List.map_nil, hs, hx]
    exact h U hown ⟨rfl, rfl, rfl, Nat.le_refl _, fun _ _ _ => rfl⟩ hU
  · refine wp_append_own_spare U s x 22 ho w1.heap.size 28 i2 2 Try.underlying22 hi2 hx1 g 0 (es.length + 2) [] hs hown y es.length ca (flatE es) hx (flatE_length es) (edge_news he) (edge_one es) (by omega) ?_
    intro w' h2 h3
    rw [Nat.zero_add, List.nil_append] at h2
    rw [Nat.zero_add]
    exact h w' h2 h3 (hU.grown h3 hU.size (fun k hk => by cases hk; exact hgB))

/-- one edge more. -/
theorem wp_copy_one {U w1 : World} {o : Oper} {a : Act} {K : Act → World → Prop} {Q : Exit → Act → World → Prop} (s x : Operand) (ho : o.op = .call { callee := .builtin .append, args := #[s, x], argTypes := #[22, 22] }) (es : List (Int × Int)) (g : Nat) (ad : Addr)
    (hs : a.eval s = .slice (some ⟨g, 0, none⟩) es.length (es.length + 2)) (hx : a.eval x = .slice (some ad) 1 1) (hown : OwnE U w1.heap.size (.slice (some ⟨g, 0, none⟩) es.length (es.length + 2)) es) (hnews : ∀ j u, [Value.int .i64 77, .int .i64 78][j]? = some u → U.cell? (ad.add j) = some u) (hU : Below w1.heap.size w1 U)
    (h : ∀ w', OwnE w' w1.heap.size (.slice (some ⟨g, 0, none⟩) (es.length + 1) (es.length + 2)) (es ++ [(77, 78)]) → U.grownBy w' (some g) → Below w1.heap.size w1 w' → K (a.put o.dst (.slice (some ⟨g, 0, none⟩) (es.length + 1) (es.length + 2))) w') : o.wp Try.prog a U K Q := by
  obtain ⟨i2, hi2, hx0, hx1, hx2⟩ := info_parts Try.infoEdge
  have hgB := (World.ownsRow.lt hown g rfl).1
  refine wp_append_own_spare U s x 22 ho w1.heap.size 28 i2 2 Try.underlying22 hi2 hx1 g es.length (es.length + 2) (flatE es) hs hown ad 1 1 [.int .i64 77, .int .i64 78] hx rfl hnews (by simp [Value.oneCell']) (by omega) ?_
  intro w' h2 h3
  refine h w' ?_ h3 (hU.grown h3 hU.size (fun k hk => by cases hk; exact hgB))
  unfold OwnE
  rw [flatE_snoc, List.length_append]
  exact h2

theorem two_at {U : World} {k : Nat} {a b : Value} {t : TypeId} (h : U.heap[k]? = some (.cells #[a, b] t (0, 0))) : ∀ j u, [a, b][j]? = some u → U.cell? ((⟨k, 0, none⟩ : Addr).add j) = some u := by
  obtain ⟨h0, h1, -⟩ := pair_cells h
  intro j u hj
  match j, hj with
  | 0, hj => cases hj; exact h0
  | 1, hj => cases hj; exact h1

theorem cand {U w' : World} {g k : Nat} (hg : U.grownBy w' (some g)) (hk : k < U.heap.size) (hne : k ≠ g) : w'.heap[k]? = U.heap[k]? := hg.block k hk (fun e => hne (Option.some.inj e))

set_option maxRecDepth 100000 in
set_option maxHeartbeats 32000000 in
theorem walk (n : Int) (ao : Option Addr) (ca : Nat) (es : List (Int × Int)) (bo : Option Addr) (cb : Nat) (js : List (Int × Int)) (w : World) (_ : -9223372036854775808 ≤ n ∧ n ≤ 9223372036854775807) (hq : PairsIn w ao es.length ca es) (hle : es.length * 16 ≤ 140737488351232) (hj : PairsIn w bo js.length cb js) (hlj : js.length * 16 ≤ 140737488351232) :
    Calls Try.prog 3 #[.agg #[.int .i64 n, .slice ao es.length ca], .slice bo js.length cb] w fun e w' => e = .returned (.bool true) ∧ Below w.heap.size w w' := by
  obtain ⟨i0, hi, hz0, hz1, hz2⟩ := info_parts Try.infoNum
  obtain ⟨i1, hi1, hy0, hy1, hy2⟩ := info_parts Try.infoRow
  obtain ⟨i2, hi2, hx0, hx1, hx2⟩ := info_parts Try.infoEdge
  have hb0 : Below w.heap.size w (w.alloc (.cells #[.int .i64 n, .slice ao es.length ca] 24)) := (Below.refl _ _).alloc (Nat.le_refl _) _
  have HB0 := Nu.hid hb0
  have HQ := Nu.hid hq
  have HJ := Nu.hid hj
  have hrof := fun W (hb : Below w.heap.size w W) => of_list (rof_any n ao ca es W (hq.hat.later hb) (by omega))
  unfold graphVal at hrof
  have HROF := Nu.hid hrof
  clear hb0 hq hj hrof
  go_enter Try.func3, Try.ntmps3
  go_wp2_with (go_at_call 4; refine (fixed_any _).mono ?_; rintro e w1 ⟨rfl, hb⟩; refine Hid.out ?_)
  refine Nu.hid ?_
  have hG1 : w1.heap[w.heap.size]? = some (.cells #[.int .i64 n, .slice ao es.length ca] 24 (0, 0)) := (hb.block _ (by simp)).trans (heap_alloc_new w _)
  have HB1 := Nu.hid (HB0.out.trans (hb.mono HB0.out.size))
  have HG1 := Nu.hid hG1
  have hs1 := lt_of_block hG1
  obtain ⟨x0, x1, -⟩ := pair_cells hG1
  clear hb hG1
  go_upto_region 3 with fail
  go_cut [5] from 28 to 41 (fun x wr => ∃ H gM : Nat, x = .pointer (some ⟨H, 0, none⟩) ∧ Copied n es (es.length + 1) w1 H gM wr)
  case first =>
    have hmk : ∀ W, (Instr.makeSlice 22 (.int .i64 0) (.int .i64 ((es.length : Int) + 2))).run Try.prog W = .ok (.slice (some ⟨W.heap.size, 0, none⟩) 0 (es.length + 2)) (W.alloc (.cells (madeCells #[.int .i64 0, .int .i64 0] ((es.length + 2) * 2)) 28)) := fun W => by
      have := run_make (P := Try.prog) W 22 28 i2 (.agg #[.int .i64 0, .int .i64 0]) Try.underlying22 hi2 hx0 .i64 .i64 0 ((es.length : Int) + 2) (by omega) (by omega) (by rw [hx2]; omega) (by omega)
      rw [this, hx1]
      have e : ((es.length : Int) + 2).toNat = es.length + 2 := by omega
      simp [Value.cells, e]
    have hwp : IntKind.i64.wrap ((es.length : Int) + 2) = (es.length : Int) + 2 := by
      rw [IntKind.wrap_i64]
      omega
    have HEV : Hid (∀ V, Below w1.heap.size w1 V → EdgesAt V ao es) := fun V hb => HQ.out.hat.later (HB1.out.trans (hb.mono HB1.out.size))
    have HSV : Hid (∀ V, Below w1.heap.size w1 V → V.cell? ⟨w.heap.size, 0, none⟩ = some (.int .i64 n) ∧ V.cell? ⟨w.heap.size, 1, none⟩ = some (.slice ao es.length ca)) := fun V hb => ⟨(hb.cell (p := ⟨w.heap.size, 0, none⟩) hs1).trans x0, (hb.cell (p := ⟨w.heap.size, 1, none⟩) hs1).trans x1⟩
    go_wp2_with fail
    go_region_held3 (fun V => V.cell? ⟨w.heap.size, 0, none⟩ = some (.int .i64 n) ∧ V.cell? ⟨w.heap.size, 1, none⟩ = some (.slice ao es.length ca))
      (first | exact ⟨x0, x1⟩ | exact hS7 | exact hS5 | exact HSV.out _ (by repeat (first | exact Below.refl _ _ | exact hb7 | exact hb5 | refine Below.drew ?_ | refine Below.setCell ?_ (by first | (simp; done) | (simp; omega) | (show w1.heap.size ≤ _; omega)) _ | refine Below.alloc ?_ (by first | (simp; done) | (simp; omega) | omega) _)))
      (first
        | (rw [if_pos (by rfl)]; refine wp_copy_room (w1 := w1) _ _ (by rfl) es ao ca _ (by rfl) (by rfl) (by (try with_reducible refine own_drew ?_); repeat (first | (with_reducible refine own_made ?_ ?_ ?_ ?_ <;> first | (simp; done) | (simp; omega) | omega | (unfold maxLen; omega) | (rw [size_madeCells]; done)) | with_reducible refine World.ownsRow.alloc ?_ _)) (HEV.out _ (by repeat (first | exact Below.refl _ _ | exact hb5 | refine Below.drew ?_ | refine Below.alloc ?_ (by first | (simp; done) | (simp; omega) | omega) _))) HQ.out.hnil (by repeat (first | exact Below.refl _ _ | exact hb5 | refine Below.drew ?_ | refine Below.alloc ?_ (by first | (simp; done) | (simp; omega) | omega) _)) ?_; intro w5 ho5 hg5 hb5; have hS5 := HSV.out w5 hb5; have hs5 := hg5.size; (try simp at hs5); (try (have q0 := cand hg5 (k := w1.heap.size) (by first | (simp; done) | (simp; omega) | omega) (by first | (simp; done) | (simp; omega) | omega); (repeat (first | simp only [hp_drew] at q0 | simp (disch := (first | (simp; done) | (simp; omega) | omega)) only [hp_old] at q0 | simp (disch := (first | (simp; done) | (simp; omega) | omega)) only [hp_new] at q0)))); (try (have q1 := cand hg5 (k := w1.heap.size + 1) (by first | (simp; done) | (simp; omega) | omega) (by first | (simp; done) | (simp; omega) | omega); (repeat (first | simp only [hp_drew] at q1 | simp (disch := (first | (simp; done) | (simp; omega) | omega)) only [hp_old] at q1 | simp (disch := (first | (simp; done) | (simp; omega) | omega)) only [hp_new] at q1)))); (try (have q2 := cand hg5 (k := w1.heap.size + 1 + 1) (by first | (simp; done) | (simp; omega) | omega) (by first | (simp; done) | (simp; omega) | omega); (repeat (first | simp only [hp_drew] at q2 | simp (disch := (first | (simp; done) | (simp; omega) | omega)) only [hp_old] at q2 | simp (disch := (first | (simp; done) | (simp; omega) | omega)) only [hp_new] at q2)))))
        | (rw [if_pos (by rfl)]; refine wp_copy_one (w1 := w1) _ _ (by rfl) es _ _ (by rfl) (by rfl) (by repeat (first | exact ho5 | refine OwnE.alloc ?_ _)) (by first | (refine new_two_e _ _ ?_ _ _ _; simp; done) | (refine two_at (t := 28) ?_; assumption) | (refine two_at (t := 28) ?_; refine (hp_old ?side).trans ?main; (case side => (first | (simp; done) | (simp; omega) | omega)); (case main => first | assumption | (refine hp_new ?_; first | rfl | (simp; done))))) (by repeat (first | exact Below.refl _ _ | exact hb5 | refine Below.drew ?_ | refine Below.alloc ?_ (by first | (simp; done) | (simp; omega) | omega) _)) ?_; intro w7 ho7 hg7 hb7; have hS7 := HSV.out w7 hb7; have hs7 := hg7.size; (try simp at hs7); (try (have r0 := cand hg7 (k := w1.heap.size) (by first | (simp; done) | (simp; omega) | omega) (by first | (simp; done) | (simp; omega) | omega); (repeat (first | simp only [hp_drew] at r0 | simp (disch := (first | (simp; done) | (simp; omega) | omega)) only [hp_old] at r0 | simp (disch := (first | (simp; done) | (simp; omega) | omega)) only [hp_new] at r0)))); (try (have r1 := cand hg7 (k := w1.heap.size + 1) (by first | (simp; done) | (simp; omega) | omega) (by first | (simp; done) | (simp; omega) | omega); (repeat (first | simp only [hp_drew] at r1 | simp (disch := (first | (simp; done) | (simp; omega) | omega)) only [hp_old] at r1 | simp (disch := (first | (simp; done) | (simp; omega) | omega)) only [hp_new] at r1)))); (try (have r2 := cand hg7 (k := w1.heap.size + 1 + 1) (by first | (simp; done) | (simp; omega) | omega) (by first | (simp; done) | (simp; omega) | omega); (repeat (first | simp only [hp_drew] at r2 | simp (disch := (first | (simp; done) | (simp; omega) | omega)) only [hp_old] at r2 | simp (disch := (first | (simp; done) | (simp; omega) | omega)) only [hp_new] at r2)))); (try (have r3 := cand hg7 (k := w5.heap.size) (by first | (simp; done) | (simp; omega) | omega) (by first | (simp; done) | (simp; omega) | omega); (repeat (first | simp only [hp_drew] at r3 | simp (disch := (first | (simp; done) | (simp; omega) | omega)) only [hp_old] at r3 | simp (disch := (first | (simp; done) | (simp; omega) | omega)) only [hp_new] at r3)))); (try (have r4 := cand hg7 (k := w5.heap.size + 1) (by first | (simp; done) | (simp; omega) | omega) (by first | (simp; done) | (simp; omega) | omega); (repeat (first | simp only [hp_drew] at r4 | simp (disch := (first | (simp; done) | (simp; omega) | omega)) only [hp_old] at r4 | simp (disch := (first | (simp; done) | (simp; omega) | omega)) only [hp_new] at r4)))); (try rw [q0] at r0); (try rw [q1] at r1); (try rw [q2] at r2); have cz0 : ∀ k : Nat, w7.heap[k]? = some (.cells #[.int .i64 0, .slice none 0 0] 24 (0, 0)) → w7.cell? ⟨k, 0, none⟩ = some (.int .i64 0) := (fun k h => (pair_cells h).1); have cz1 : ∀ k : Nat, w7.heap[k]? = some (.cells #[.int .i64 0, .slice none 0 0] 24 (0, 0)) → w7.cell? ⟨k, 1, none⟩ = some (.slice none 0 0) := (fun k h => (pair_cells h).2.1); have czf : ∀ k i : Nat, w7.heap[k]? = some (.cells #[.int .i64 0, .slice none 0 0] 24 (0, 0)) → w7.frozen? ⟨k, i, none⟩ = false := (fun k i h => (pair_cells h).2.2 i)))
    all_goals
      go_wp2
      go_meet
      first
        | exact ⟨_, _, rfl, fin_new rfl ho7 hb7⟩
        | (refine ⟨_, _, rfl, fin_set (a := .int .i64 0) (b := .slice none 0 0) ?_ ho7 ?_ ?_ hb7⟩ <;> first | assumption | (simp; done) | (simp; omega) | omega)
  case rest =>
    obtain ⟨H, gM, rfl, hcp⟩ := hcut
    obtain ⟨w3, rfl⟩ : ∃ w3, w3 = wc := ⟨wc, rfl⟩
    clear x0 x1
    have hG3 := (hcp.below.block _ hs1).trans HG1.out
    obtain ⟨x0, x1, -⟩ := pair_cells hG3
    obtain ⟨h0, h1, hf⟩ := pair_cells hcp.box
    obtain ⟨bg, lg⟩ := own_blk hcp.own
    have lH := lt_of_block hcp.box
    have hHi := hcp.hi
    obtain ⟨w4, hw4⟩ : ∃ w4, w4 = w3.setCell ⟨H, 1, none⟩ (.slice (some ⟨gM, 0, none⟩) es.length (es.length + 2)) := ⟨_, rfl⟩
    have hc4 : Copied n es es.length w1 H gM w4 := by
      refine ⟨?_, own_same hcp.own (fun g hg => ?_), hcp.hi, hcp.ne, ?_⟩
      · rw [hw4, heap_setCell_same w3 H 1 _ _ _ hcp.box]
        simp
      · obtain rfl : gM = g := by simpa [Value.ownBlock] using hg
        rw [hw4, heap_setCell_other w3 ⟨H, 1, none⟩ gM _ (Ne.symm hcp.ne)]
      · rw [hw4]
        exact hcp.below.setCell (p := ⟨H, 1, none⟩) hcp.hi _
    have hG4 : w4.heap[w.heap.size]? = some (.cells #[.int .i64 n, .slice ao es.length ca] 24 (0, 0)) := by
      rw [hw4, heap_setCell_other w3 ⟨H, 1, none⟩ w.heap.size _ (by show w.heap.size ≠ H; omega)]
      exact hG3
    have hb4 : Below w.heap.size w w4 := HB1.out.trans (hc4.below.mono HB1.out.size)
    have i3 : (0 : Int) ≤ (es.length : Int) := by omega
    have i4 : (es.length : Int) ≤ (es.length : Int) + 2 := by omega
    have HC4 := Nu.hid hc4
    have HG4 := Nu.hid hG4
    have HB4 := Nu.hid hb4
    have HW4 := Nu.hid hw4
    have HN := Nu.hid (new_yes 20 w4 (by omega))
    clear hcp hG3 hc4 hG4 hb4 hw4
    go_wp2_with (go_at_call 5; rw [← HW4.out]; refine HN.out.mono ?_; rintro e w5 ⟨p, gp, gt, rfl, hs5, hb5⟩; have HS5 := Nu.hid hs5; have HB5 := Nu.hid hb5; clear hs5 hb5; refine Hid.out ?_)
    refine Nu.hid ?_
    obtain ⟨hs5, b1, b2, b3⟩ := HS5.out
    have HQ5 : Hid (SetsQ w5 (some (p, gp, gt)) 20 (fun x => x)) := hs5
    have hs4 := HB4.out.size
    clear HN HS5 hs5 x0 x1 h0 h1 hf HW4
    go_wp2
    go_loopw [59] (fun cv wr => ∃ i : Nat, i ≤ js.length ∧ cv = .int .i64 (i : Int) ∧ SetsQ wr (some (p, gp, gt)) 20 (Co.joins 20 (js.take i) (fun x => x)) ∧ Below w4.heap.size w4 wr) (fun cv _ => js.length - (intOf cv).toNat)
    case atStart => exact ⟨0, Nat.zero_le _, rfl, HQ5.out, HB5.out⟩
    case round =>
      obtain ⟨i, hi', rfl, hQ, hb⟩ := hrel
      by_cases hlt : i < js.length
      · have hlti : (i : Int) < (js.length : Int) := by omega
        have hi0 : (0 : Int) ≤ (i : Int) := by omega
        obtain ⟨q, hq⟩ : ∃ q, js[i]? = some q := ⟨_, List.getElem?_eq_getElem hlt⟩
        obtain ⟨b, o, rfl, c0, c1⟩ := (HJ.out.hat.later (HB4.out.trans (hb.mono hs4))) i q hq
        have hbl : b < wr.heap.size := block_lt_of_cell c0
        have hb3 : Below w4.heap.size w4 (wr.alloc (.cells #[.int .i64 q.1, .int .i64 q.2] 34)) := hb.alloc hb.size _
        have hjj := join_any (some (p, gp, gt)) 20 (Co.joins 20 (js.take i) (fun x => x)) q.1 q.2 _ (hQ.later ((Below.refl _ _).alloc (Nat.le_refl _) (.cells #[.int .i64 q.1, .int .i64 q.2] 34)))
        have hend : ∀ e w3', JoinPost (some (p, gp, gt)) 20 (Co.joins 20 (js.take i) (fun x => x)) q.1 q.2 (wr.alloc (.cells #[.int .i64 q.1, .int .i64 q.2] 34)) e w3' → (∃ t, e = .returned (.bool t)) ∧ SetsQ w3' (some (p, gp, gt)) 20 (Co.joins 20 (js.take (i + 1)) (fun x => x)) ∧ Below w4.heap.size w4 w3' := by
          rintro e w3' ⟨h1, h2, h3⟩
          refine ⟨⟨_, h1⟩, ?_, hb3.trans (h3.below hb3.size ?_)⟩
          · rw [Si.take_snoc hq, Co.joins_snoc]
            exact h2
          · rintro x (rfl | rfl | rfl) <;> omega
        have HJN := Nu.hid (hjj.mono hend)
        clear hjj hend hQ hb hb3 hq
        unfold ptrQ at HJN
        go_wp2_with (go_at_call 6; refine HJN.out.mono ?_; rintro e w6 ⟨⟨t, rfl⟩, h2, h3⟩; have H2 := Nu.hid h2; have H3 := Nu.hid h3; clear h2 h3; refine Hid.out ?_)
        refine Nu.hid ?_
        go_wp2
        go_roundw
        case rel => exact ⟨i + 1, by omega, by go_num, H2.out, H3.out⟩
        case measure => simp [intOf]; omega
      · have hd : ¬ ((i : Int) < (js.length : Int)) := by omega
        obtain ⟨w6, rfl⟩ : ∃ w6, w6 = wr := ⟨wr, rfl⟩
        obtain ⟨M, hM⟩ : ∃ M, Co.joins 20 (js.take i) (fun x => x) = M := ⟨_, rfl⟩
        rw [hM] at hQ
        have HQ6 := Nu.hid hQ
        have HC6 := Nu.hid (HC4.out.later hb)
        have hG6 := (hb.block _ (lt_of_block HG4.out)).trans HG4.out
        have HG6 := Nu.hid hG6
        have HB6 := Nu.hid (HB4.out.trans (hb.mono hs4))
        have hs6 := HB6.out.size
        have lG6 := lt_of_block hG6
        obtain ⟨x0, x1, -⟩ := pair_cells hG6
        obtain ⟨L, hL⟩ : ∃ L, Co.ofL n es = L := ⟨_, rfl⟩
        have hLl := Co.ofL_length (n := n) (es := es)
        rw [hL] at hLl HROF
        -- Of of h, at any later time
        have hof : ∀ V, Below w6.heap.size w6 V → Calls Try.prog 9 #[.agg #[.int .i64 n, .slice (some ⟨gM, 0, none⟩) es.length (es.length + 2)]] V fun e w' => ∃ ao c y z, e = .returned (.tuple #[.slice ao L.length c, .int .i64 y, .int .i64 z]) ∧ OwnZ w' V.heap.size (.slice ao L.length c) L ∧ Below V.heap.size V w' := fun V hbV => by
          have h1 := of_list (of_any n (some ⟨gM, 0, none⟩) (es.length + 2) es V (own_cells (HC6.out.later hbV).own).1 (by omega))
          rw [hL] at h1
          exact h1
        have hgr : ∀ V, Below w6.heap.size w6 V → Calls Try.prog 8 #[.pointer (some ⟨p, 0, none⟩)] V (GrpPost 20 M V) := fun V hbV => groups_any (some ⟨p, 0, none⟩) 20 M V (hQ.later hbV).is
        have HOF := Nu.hid hof
        have HGR := Nu.hid hgr
        obtain ⟨GL, hGL⟩ : ∃ GL, Co.gl M 20 20 = GL := ⟨_, rfl⟩
        have hgl : GL.length ≤ 20 := by
          rw [← hGL, Co.gl_length]
          exact Co.cntTo_le _ _
        have HGP : Hid (0 < GL.length) := by
          show 0 < GL.length
          rw [← hGL, Co.gl_length]
          have h0 := HQ6.out.is.norm.le 0 (by omega)
          exact Co.cntTo_pos 20 (x := 0) (by omega) (by simp [Co.fix]; omega)
        have hgle : ∀ l ∈ GL, 0 < l.length ∧ l.length ≤ 20 := fun l hl => by
          rw [← hGL] at hl
          refine ⟨Co.gl_pos hl, ?_⟩
          obtain ⟨i, _, rfl⟩ := List.mem_map.1 hl
          exact Co.mem_length M 20 i
        have HGLE := Nu.hid hgle
        have HGLL := Nu.hid hGL
        unfold GrpPost at HGR
        rw [hGL] at HGR
        have hb66 : Below w6.heap.size w6 w6 := Below.refl _ _
        clear hQ hb hM hG6 hL hof hgr hGL hgle
        obtain ⟨NL, hNL⟩ : ∃ NL, L.length = NL := ⟨_, rfl⟩
        rw [hNL] at HROF HOF hLl
        have HNL := Nu.hid hNL
        clear hNL
        go_wp2_with (go_at_call 7; refine (HROF.out _ HB6.out).mono ?_; rintro e w7 ⟨a7, c7, y7, z7, rfl, ho7, hb7⟩; have HO7 := Nu.hid ho7; have HB7 := Nu.hid hb7; clear ho7 hb7; refine Hid.out ?_)
        refine Nu.hid ?_
        clear x0 x1 HROF
        go_wp2_with (go_at_call 8; refine (HGR.out _ HB7.out).mono ?_; rintro e w8 ⟨v8, vs8, rfl, hr8, hb8⟩; obtain ⟨a8, c8, hv8⟩ := row_shape hr8; have HR8 := Nu.hid hr8; have HB8 := Nu.hid hb8; clear hr8 hb8; subst hv8; refine Hid.out ?_)
        refine Nu.hid ?_
        have hB8 : Below w6.heap.size w6 w8 := HB7.out.trans (HB8.out.mono HB7.out.size)
        have HB68 := Nu.hid hB8
        obtain ⟨NG, hNG⟩ : ∃ NG, GL.length = NG := ⟨_, rfl⟩
        rw [hNG] at HR8 hgl ⊢
        have HNG := Nu.hid hNG
        clear hB8 hNG
        have hgpos : 0 < NG := by
          rw [← HNG.out]
          exact HGP.out
        have hmo : ∀ W, (Instr.makeSlice 39 (.int .i64 0) (.int .i64 (NG : Int))).run Try.prog W = .ok (.slice (some ⟨W.heap.size, 0, none⟩) 0 NG) (W.alloc (.cells (madeCells #[.slice none 0 0] NG) 36)) := fun W => by
          have := run_make (P := Try.prog) W 39 36 i1 (.slice none 0 0) Try.underlying39 hi1 hy0 .i64 .i64 0 (NG : Int) (by omega) (by omega) (by rw [hy2]; omega) (by omega)
          rw [this, hy1]
          simp [Value.cells]
        have HK0 : Hid (RowsZ (w8.alloc (.cells (madeCells #[.slice none 0 0] NG) 36)) w8.heap.size (.slice (some ⟨w8.heap.size, 0, none⟩) 0 NG) [] (GL.take 0)) :=
          ⟨rfl, World.ownsRow_made w8 _ NG (Nat.le_refl _) (by unfold maxLen; omega) (by rw [size_madeCells]; omega), fun u x l hx => by simp at hx, fun u u' x x' b _ hx => by simp at hx, fun u x b hx => by simp at hx⟩
        have HBK0 := Nu.hid ((Below.refl w8.heap.size w8).alloc (Nat.le_refl _) (.cells (madeCells #[.slice none 0 0] NG) 36))
        go_wp2
        clear hmo
        go_loopw [16, 83] (fun kv cv wr => ∃ (t : Nat) (kvs : List Value), t ≤ NG ∧ cv = .int .i64 (t : Int) ∧ RowsZ wr w8.heap.size kv kvs (GL.take t) ∧ Below w8.heap.size w8 wr) (fun _ cv _ => NG - (intOf cv).toNat)
        case atStart => exact ⟨0, [], Nat.zero_le _, rfl, HK0.out, HBK0.out⟩
        case round =>
          obtain ⟨t, kvs, ht, rfl, hk, hb⟩ := hrel
          obtain ⟨ko, kc, hkv⟩ := row_shape hk
          have htl : (GL.take t).length = t := by rw [List.length_take, HNG.out]; omega
          rw [htl] at hkv
          subst hkv
          have HK := Nu.hid hk
          have HB := Nu.hid hb
          have HTL := Nu.hid htl
          have hsb := hb.size
          by_cases htn : t < NG
          · have htni : (t : Int) < (NG : Int) := by omega
            have ht0 : (0 : Int) ≤ (t : Int) := by omega
            have hr := HR8.out.later hb
            obtain ⟨l, hl⟩ : ∃ l, GL[t]? = some l := ⟨_, List.getElem?_eq_getElem (by rw [HNG.out]; exact htn)⟩
            obtain ⟨x, hx⟩ := hr.at' hl
            obtain ⟨g, gc, hvg, cx⟩ := row_at hr hx
            rw [HNG.out] at hvg
            have hao : a8 = some ⟨g, 0, none⟩ := by cases hvg; rfl
            obtain ⟨xo, xc, hxe, hxat, hxb⟩ := (hr.row t x l hx hl).form
            obtain ⟨hlp, hl20⟩ := HGLE.out l (List.mem_of_getElem? hl)
            obtain ⟨z0, hz0'⟩ : ∃ z, l[0]? = some z := ⟨_, List.getElem?_eq_getElem hlp⟩
            obtain ⟨bx, ox, hxo, -⟩ := hxat 0 z0 hz0'
            subst hxo
            have hown0 : (wr.alloc (.cells #[] 3)).ownsRow wr.heap.size 3 1 (.slice (some ⟨wr.heap.size, 0, none⟩) 0 0) 0 [] := World.ownsRow_made wr #[] 0 (Nat.le_refl _) (Nat.zero_le _) rfl
            have hnews : ∀ j u, (l.map (Value.int .i64))[j]? = some u → (wr.alloc (.cells #[] 3)).cell? ((⟨bx, ox, none⟩ : Addr).add j) = some u := fun j u hj => by
              rw [List.getElem?_map] at hj
              obtain ⟨z, hz, rfl⟩ := Option.map_eq_some_iff.1 hj
              obtain ⟨b', o', e', hc⟩ := hxat j z hz
              cases e'
              have e : ((⟨bx, ox, none⟩ : Addr).add j) = ⟨bx, ox + j, none⟩ := by
                by_cases h0 : j = 0 <;> simp [Addr.add, h0]
              rw [e]
              exact (World.grownBy_alloc wr _ none).cell hc (by simp)
            obtain ⟨P, hP⟩ : ∃ P, l.length = P + 1 := ⟨l.length - 1, by omega⟩
            rw [hP] at hxe hl20
            subst hxe
            have hil : (l.map (Value.int .i64)).length = (P + 1) * 1 := by simp [hP]
            have HOWN0 := Nu.hid hown0
            have HNEWS := Nu.hid hnews
            have HIL := Nu.hid hil
            have HP := Nu.hid hP
            have HL := Nu.hid hl
            have htk : GL.take (t + 1) = GL.take t ++ [l] := by
              rw [List.take_add_one, hl]
              rfl
            have HTK := Nu.hid htk
            subst hao
            clear hk hb hr hl hx hvg hxat hxb hlp hz0' hown0 hnews hP hil htk htl
            go_wp2_with (at_builtin; refine wpList_append_own _ rfl _ _ 36 rfl wr.heap.size 3 i0 (.int .i64 0) 1 8 Try.underlying36 hi hz0 hz1 hz2 rfl (by decide) _ 0 [] rfl HOWN0.out ⟨bx, ox, none⟩ (P + 1) xc _ rfl HIL.out HNEWS.out (ints_oneCell .i64 _) (by unfold maxLen; omega) (by omega) (by simp) ?_; refine Hid.out ?_)
            refine Nu.hid ?_
            intro v1 w1' hown1 hgrow1 _
            obtain ⟨g1, cc1, hv1⟩ : ∃ g cap, v1 = .slice (some ⟨g, 0, none⟩) (P + 1) cap := own_succ (by simpa using hown1)
            subst hv1
            have ho1 : OwnZ w1' wr.heap.size (.slice (some ⟨g1, 0, none⟩) (P + 1) cc1) l := by
              unfold OwnZ
              rw [HP.out]
              simpa using hown1
            have hg1 := (World.ownsRow.lt ho1 g1 rfl)
            have hb1 : Below wr.heap.size wr w1' := ((Below.refl _ _).alloc (Nat.le_refl _) _).grown hgrow1 (by simp) (fun q hq => by cases hq; exact Nat.le_refl _)
            have hk1 := HK.out.later hb1
            have hout := hk1.outer
            rw [HTL.out] at hout
            have HOUT := Nu.hid hout
            have HK1 := Nu.hid hk1
            have HO1 := Nu.hid ho1
            have HB1' := Nu.hid hb1
            have hsz1 := hb1.size
            clear hown1 hgrow1 ho1 hb1 hk1 hout HOWN0 HNEWS HIL cx
            go_wp2_with (at_builtin; refine wpList_append_own_at _ rfl _ _ 39 rfl w8.heap.size 36 i1 (.slice none 0 0) 1 24 Try.underlying39 hi1 hy0 hy1 hy2 rfl (by decide) _ _ _ rfl (World.ownsRow.alloc HOUT.out _) ⟨w1'.heap.size, 0, none⟩ 1 1 [.slice (some ⟨g1, 0, none⟩) (P + 1) cc1] rfl rfl (cell_one_new _ _ _) (by simp [Value.oneCell']) (by unfold maxLen; omega) (by omega) (by simp; omega) ?_; refine Hid.out ?_)
            refine Nu.hid ?_
            intro gv3 w3' hown3 hgrow3 _ hat3
            obtain ⟨g3, c3, hgv3⟩ := own_succ hown3
            subst hgv3
            have hk3 : RowsZ w3' w8.heap.size (.slice (some ⟨g3, 0, none⟩) (t + 1) c3) (kvs ++ [.slice (some ⟨g1, 0, none⟩) (P + 1) cc1]) (GL.take (t + 1)) := by
              rw [HTK.out]
              refine HK1.out.grow (HO1.out.lower hsb) (fun u y b hy hb' e => ?_) (fun b hb' e => ?_) (tmp := .cells #[.slice (some ⟨g1, 0, none⟩) (P + 1) cc1] 36) (by rw [HTL.out]; exact hown3) hgrow3 (by simpa using hat3)
              · have e : g1 = b := Option.some.inj e
                have := (HK.out.within (.inr ⟨u, y, hy, hb'⟩)).2
                omega
              · have e : g1 = b := Option.some.inj e
                have := (HK.out.within (.inl hb')).2
                omega
            have HK3 := Nu.hid hk3
            have HB3' := Nu.hid (((HB.out.trans (HB1'.out.mono hsb)).alloc (by omega) _).grown hgrow3 (by simp; omega) (fun b hb' => (HK.out.within (.inl hb')).1))
            clear hown3 hgrow3 hat3 hk3
            go_wp2
            go_roundw
            case rel => exact ⟨t + 1, _, by omega, by go_num, HK3.out, HB3'.out⟩
            case measure => simp [intOf]; omega
          · have hd2 : ¬ ((t : Int) < (NG : Int)) := by omega
            obtain ⟨w9, rfl⟩ : ∃ w9, w9 = wr := ⟨wr, rfl⟩
            rw [List.take_of_length_le (by rw [HNG.out]; omega)] at hk
            have HK9 := Nu.hid hk
            obtain rfl : t = NG := by omega
            have hb69 := HB68.out.trans (hb.mono HB68.out.size)
            have HBW := Nu.hid hb
            have hs89 := hb.size
            have HB69 := Nu.hid hb69
            have hs69 := hb69.size
            clear hk hb htl HK hb69 HK0 HBK0
            go_wp2
            go_loopw [19, 20] (fun av cv wr => ∃ (r : Nat) (avs : List Value) (als : List (List Int)), r ≤ 6 ∧ cv = .int .i64 (r : Int) ∧ RowsZ wr w9.heap.size av avs als ∧ als.length = r * (1 + t) ∧ (∀ l ∈ als, l.length ≤ 1048576) ∧ Below w9.heap.size w9 wr) (fun _ cv _ => 6 - (intOf cv).toNat)
            case atStart => exact ⟨0, [], [], by omega, rfl, RowsZ.nil _ _, by simp, fun l hl => by simp at hl, Below.refl _ _⟩
            case round =>
              obtain ⟨r, avs, als, hr6, rfl, ha, hal, hall, hb⟩ := hrel
              obtain ⟨w10, rfl⟩ : ∃ w10, w10 = wr := ⟨wr, rfl⟩
              obtain ⟨ao', ac, hav⟩ := row_shape ha
              obtain ⟨NA, hNA⟩ : ∃ NA, als.length = NA := ⟨_, rfl⟩
              rw [hNA] at hav
              subst hav
              have hNAb : NA ≤ 126 := by
                rw [← hNA, hal]
                have h1 : r * (1 + t) ≤ 6 * (1 + t) := Nat.mul_le_mul_right _ hr6
                omega
              have HA := Nu.hid ha
              have HNA := Nu.hid hNA
              have HAL := Nu.hid hal
              have HALL := Nu.hid hall
              have HB := Nu.hid hb
              have hsb := hb.size
              have hb6 := HB69.out.trans (hb.mono hs69)
              have HB6A := Nu.hid hb6
              have hs6a := hb6.size
              clear ha hNA hal hall hb
              by_cases hr : r < 6
              · have hri : (r : Int) < 6 := by omega
                obtain ⟨h0, h1, -⟩ := pair_cells (HC6.out.later hb6).box
                clear hb6
                go_wp2_with (go_at_call 9; refine (HOF.out _ HB6A.out).mono ?_; rintro e w11 ⟨a11, c11, y11, z11, rfl, ho11, hb11⟩; have HO11 := Nu.hid ho11; have HB11 := Nu.hid hb11; clear ho11 hb11; refine Hid.out ?_)
                refine Nu.hid ?_
                have b11 := HB6A.out.trans (HB11.out.mono hs6a)
                have HB6B := Nu.hid b11
                have hs11 := HB11.out.size
                clear h0 h1 b11
                go_wp2_with (go_at_call 8; refine (HGR.out _ HB6B.out).mono ?_; rintro e w12 ⟨v12, vs12, rfl, hr12, hb12⟩; obtain ⟨a12, c12, hv12⟩ := row_shape hr12; rw [HNG.out] at hv12; have HR12 := Nu.hid hr12; have HB12 := Nu.hid hb12; clear hr12 hb12; subst hv12; refine Hid.out ?_)
                refine Nu.hid ?_
                have hs12 := HB12.out.size
                have hsi : Calls Try.prog 10 #[.slice a11 NL c11, .slice a7 NL c7] w12 fun e w' => e = .returned (.bool true) ∧ Below w12.heap.size w12 w' := by
                  have k1 := HO11.out.later HB12.out
                  have k2 := HO7.out.later (HB8.out.trans ((HBW.out.trans (HB.out.mono HBW.out.size) |>.trans ((HB11.out.mono (Nat.le_trans HBW.out.size hsb)) |>.trans (HB12.out.mono (by omega)))).mono HB8.out.size))
                  obtain ⟨p1, q1, e1, m1, -⟩ := k1.form
                  obtain ⟨p2, q2, e2, m2, -⟩ := k2.form
                  rw [HNL.out] at e1 e2
                  cases e1
                  cases e2
                  refine (sameints_any a11 a7 c11 c7 NL NL L L w12 HNL.out HNL.out m1 m2 (by omega)).mono ?_
                  rintro e w' ⟨h1, h2⟩
                  exact ⟨by rw [h1]; simp, h2⟩
                have HSI := Nu.hid hsi
                clear hsi
                go_wp2_with (go_at_call 10; refine HSI.out.mono ?_; rintro e w13 ⟨rfl, hb13⟩; have HB13 := Nu.hid hb13; clear hb13; refine Hid.out ?_)
                refine Nu.hid ?_
                have hs13 := HB13.out.size
                have b913 : Below w9.heap.size w9 w13 := HB.out.trans (((HB11.out.mono hsb).trans (HB12.out.mono (by omega))).trans (HB13.out.mono (by omega)))
                have HSL := Nu.hid (samelists_any _ _ _ _ _ _ _ w13 (HR12.out.later HB13.out) (HK9.out.later b913) (by rw [HNG.out]; omega) (fun l hl => by have := (HGLE.out l hl).2; omega))
                have HB913 := Nu.hid b913
                clear b913 HSI
                go_wp2_with (go_at_call 11; refine HSL.out.mono ?_; rintro e w14 ⟨rfl, hb14⟩; have HB14 := Nu.hid hb14; clear hb14; refine Hid.out ?_)
                refine Nu.hid ?_
                have hs14 := HB14.out.size
                have hb914 : Below w9.heap.size w9 w14 := HB913.out.trans (HB14.out.mono (by omega))
                have hb1014 : Below w10.heap.size w10 w14 := ((HB11.out.trans (HB12.out.mono hs11)).trans (HB13.out.mono (by omega))).trans (HB14.out.mono (by omega))
                have hb1114 : Below w11.heap.size w11 w14 := (HB12.out.trans (HB13.out.mono hs12)).trans (HB14.out.mono (by omega))
                have hb1214 : Below w12.heap.size w12 w14 := HB13.out.trans (HB14.out.mono hs13)
                have hA14 := HA.out.later hb1014
                have hO14 := HO11.out.later hb1114
                have hN14 := HR12.out.later hb1214
                have hout := hA14.outer
                rw [HNA.out] at hout
                have HOUT := Nu.hid hout
                have HA14 := Nu.hid hA14
                have HO14 := Nu.hid hO14
                have HN14 := Nu.hid hN14
                have HB914 := Nu.hid hb914
                clear hout hA14 hO14 hN14 hb914 hb1014 hb1114 hb1214 HSL
                go_wp2_with (at_builtin; refine wpList_append_own_at _ rfl _ _ 39 rfl w9.heap.size 36 i1 (.slice none 0 0) 1 24 Try.underlying39 hi1 hy0 hy1 hy2 rfl (by decide) _ _ _ rfl (World.ownsRow.alloc HOUT.out _) ⟨w14.heap.size, 0, none⟩ 1 1 [.slice a11 NL c11] rfl rfl (cell_one_new _ _ _) (by simp [Value.oneCell']) (by unfold maxLen; omega) (by omega) (by simp; omega) ?_; refine Hid.out ?_)
                refine Nu.hid ?_
                intro gv3 w15 hown3 hgrow3 _ hat3
                obtain ⟨g3, c3, hgv3⟩ := own_succ hown3
                subst hgv3
                have hofb : ∀ b, (Value.slice a11 NL c11).ownBlock = some b → w10.heap.size ≤ b ∧ b < w11.heap.size := fun b hb' => World.ownsRow.lt HO11.out b hb'
                have hnb : ∀ b, ((Value.slice a12 t c12).ownBlock = some b ∨ inV vs12 b) → w11.heap.size ≤ b ∧ b < w12.heap.size := fun b hb' => HR12.out.within hb'
                have hab : ∀ b, ((Value.slice ao' NA ac).ownBlock = some b ∨ inV avs b) → w9.heap.size ≤ b ∧ b < w10.heap.size := fun b hb' => HA.out.within hb'
                have hA15 : RowsZ w15 w9.heap.size (.slice (some ⟨g3, 0, none⟩) (NA + 1) c3) (avs ++ [.slice a11 NL c11]) (als ++ [L]) := by
                  refine HA14.out.grow (HO14.out.lower (by omega)) (fun u y b hy hb' e => ?_) (fun b hb' e => ?_) (tmp := .cells #[.slice a11 NL c11] 36) (by rw [HNA.out]; exact hown3) hgrow3 (by simpa using hat3)
                  · have h1 := hofb b e
                    have h2 := hab b (.inr ⟨u, y, hy, hb'⟩)
                    omega
                  · have h1 := hofb b e
                    have h2 := hab b (.inl hb')
                    omega
                have hsz15 := hgrow3.size
                rw [World.size_alloc] at hsz15
                have hb915 : Below w9.heap.size w9 w15 := (HB914.out.alloc (by omega) _).grown hgrow3 (by simp; omega) (fun b hb' => (hab b (.inl hb')).1)
                have hN15 : RowsZ w15 w11.heap.size (.slice a12 t c12) vs12 GL := HN14.out.kept fun b hb' hlt => by
                  rw [hgrow3.block b (by rw [World.size_alloc]; omega) (fun e => by
                    have h1 := hnb b hb'
                    have h2 := hab b (.inl e.symm)
                    omega)]
                  exact Below.heap_alloc w14 _ b hlt
                have hg3b : w9.heap.size ≤ g3 ∧ (g3 < w10.heap.size ∨ w14.heap.size < g3) := by
                  rcases hat3 with e | e
                  · have h2 := hab g3 (.inl e.symm)
                    exact ⟨h2.1, .inl h2.2⟩
                  · have e2 : g3 = w14.heap.size + 1 := by simpa [Value.ownBlock] using e
                    exact ⟨by omega, .inr (by omega)⟩
                obtain ⟨gn, cn, hgn⟩ := row_form hN15 (by rw [HNG.out]; exact hgpos)
                rw [HNG.out] at hgn
                have hao12 : a12 = some ⟨gn, 0, none⟩ := by cases hgn; rfl
                have hout := hA15.outer
                rw [List.length_append, HNA.out, List.length_singleton] at hout
                have hnews : ∀ j u, vs12[j]? = some u → w15.cell? ((⟨gn, 0, none⟩ : Addr).add j) = some u := fun j u hj => World.ownsRow.cells hN15.outer (g := gn) (by rw [hao12]; rfl) j u hj
                have hone : ∀ u ∈ vs12, u.oneCell' = true := fun u hu => by
                  obtain ⟨j, hj⟩ := List.getElem?_of_mem hu
                  obtain ⟨l, hl⟩ := hN15.at hj
                  obtain ⟨q1, q2, rfl, -, -⟩ := (hN15.row j u l hj hl).form
                  rfl
                have hl12 : vs12.length = t * 1 := by rw [hN15.len, HNG.out]; omega
                have HOUT2 := Nu.hid hout
                have HNEWS := Nu.hid hnews
                have HONE := Nu.hid hone
                have HL12 := Nu.hid hl12
                have HA15 := Nu.hid hA15
                have HN15 := Nu.hid hN15
                have HB915 := Nu.hid hb915
                have HG3B := Nu.hid hg3b
                have HOFB := Nu.hid hofb
                have HNB := Nu.hid hnb
                have HAB := Nu.hid hab
                subst hao12
                clear hown3 hgrow3 hat3 hA15 hN15 hb915 hg3b hofb hnb hab hout hnews hone hl12 hgn HOUT HA14 HO14 HN14
                go_wp2_with (at_builtin; refine wpList_append_own_at _ rfl _ _ 39 rfl w9.heap.size 36 i1 (.slice none 0 0) 1 24 Try.underlying39 hi1 hy0 hy1 hy2 rfl (by decide) _ _ _ rfl HOUT2.out ⟨gn, 0, none⟩ t c12 vs12 rfl HL12.out HNEWS.out HONE.out (by unfold maxLen; omega) (by omega) (by omega) ?_; refine Hid.out ?_)
                refine Nu.hid ?_
                intro gv4 w16 hown4 hgrow4 _ hat4
                have hA16 : RowsZ w16 w9.heap.size gv4 ((avs ++ [.slice a11 NL c11]) ++ vs12) ((als ++ [L]) ++ GL) := by
                  refine HA15.out.more HN15.out.len (fun u x l hx hl => (HN15.out.row u x l hx hl).lower (by omega)) HN15.out.apart (fun b hb' h2 => ?_) (by rw [List.length_append, HNA.out, HNG.out, List.append_assoc]; exact hown4) hgrow4 hat4
                  have h1 := HNB.out b (.inr hb')
                  rcases h2 with h2 | ⟨u, y, hy, h2⟩
                  · have e : g3 = b := Option.some.inj h2
                    have := HG3B.out
                    omega
                  · by_cases hu : u < avs.length
                    · rw [List.getElem?_append_left hu] at hy
                      have := HAB.out b (.inr ⟨u, y, hy, h2⟩)
                      omega
                    · rw [List.getElem?_append_right (by omega)] at hy
                      have hl0 := (List.getElem?_eq_some_iff.1 hy).1
                      have e0 : u - avs.length = 0 := by simp at hl0; omega
                      rw [e0] at hy
                      obtain rfl := Option.some.inj hy
                      have := HOFB.out b h2
                      omega
                have HA16 := Nu.hid hA16
                have HB916 := Nu.hid (HB915.out.grown hgrow4 (by omega) (fun b hb' => by
                  have e : g3 = b := Option.some.inj hb'
                  have := HG3B.out
                  omega))
                clear hown4 hgrow4 hat4 hA16
                go_wp2
                go_roundw
                case rel =>
                  refine ⟨r + 1, _, _, by omega, by go_num, HA16.out, ?_, fun l hl => ?_, HB916.out⟩
                  · rw [List.length_append, List.length_append, HNA.out, HNG.out, ← HNA.out, HAL.out, Nat.add_mul]
                    simp
                    omega
                  · rcases List.mem_append.1 hl with hl | hl
                    · rcases List.mem_append.1 hl with hl | hl
                      · exact HALL.out l hl
                      · obtain rfl := List.mem_singleton.1 hl
                        rw [HNL.out]
                        exact hLl
                    · have := (HGLE.out l hl).2
                      omega
                case measure => simp [intOf]; omega
              · have hd6 : ¬ (r : Int) < 6 := by omega
                have hR8 := HR8.out.later (HBW.out.trans (HB.out.mono HBW.out.size))
                obtain ⟨g8, q8, hg8⟩ := row_form hR8 (by rw [HNG.out]; exact hgpos)
                rw [HNG.out] at hg8
                have ha8 : a8 = some ⟨g8, 0, none⟩ := by cases hg8; rfl
                have hs78 := HB8.out.size
                have hs67 := HB7.out.size
                have hA' := HA.out.lower (B' := w7.heap.size) (by omega)
                have hout := hA'.outer
                rw [HNA.out] at hout
                have hnews : ∀ j u, vs8[j]? = some u → w10.cell? ((⟨g8, 0, none⟩ : Addr).add j) = some u := fun j u hj => World.ownsRow.cells hR8.outer (g := g8) (by rw [ha8]; rfl) j u hj
                have hone : ∀ u ∈ vs8, u.oneCell' = true := fun u hu => by
                  obtain ⟨j, hj⟩ := List.getElem?_of_mem hu
                  obtain ⟨l, hl⟩ := hR8.at hj
                  obtain ⟨q1, q2, rfl, -, -⟩ := (hR8.row j u l hj hl).form
                  rfl
                have hl8 : vs8.length = t * 1 := by rw [hR8.len, HNG.out]; omega
                have HOUT := Nu.hid hout
                have HNEWS := Nu.hid hnews
                have HONE := Nu.hid hone
                have HL8 := Nu.hid hl8
                have HA' := Nu.hid hA'
                have HR8' := Nu.hid hR8
                subst ha8
                clear hb6 hR8 hg8 hA' hout hnews hone hl8
                go_wp2_with (at_builtin; refine wpList_append_own_at _ rfl _ _ 39 rfl w7.heap.size 36 i1 (.slice none 0 0) 1 24 Try.underlying39 hi1 hy0 hy1 hy2 rfl (by decide) _ _ _ rfl HOUT.out ⟨g8, 0, none⟩ t c8 vs8 rfl HL8.out HNEWS.out HONE.out (by unfold maxLen; omega) (by omega) (by omega) ?_; refine Hid.out ?_)
                refine Nu.hid ?_
                intro gv5 w11 hown5 hgrow5 _ hat5
                have hA5 : RowsZ w11 w7.heap.size gv5 (avs ++ vs8) (als ++ GL) := by
                  refine HA'.out.more HR8'.out.len HR8'.out.row HR8'.out.apart (fun b hb' h2 => ?_) (by rw [HNA.out, HNG.out]; exact hown5) hgrow5 hat5
                  have h1 := HR8.out.within (.inr hb')
                  have h3 := HA.out.within h2
                  omega
                have hb911 : Below w9.heap.size w9 w11 := HB.out.grown hgrow5 (by omega) (fun b hb' => (HA.out.within (.inl hb')).1)
                have hb611 : Below w6.heap.size w6 w11 := HB69.out.trans (hb911.mono hs69)
                obtain ⟨go5, gc5, hgv5⟩ := row_shape hA5
                have hc11 := HC6.out.later hb611
                obtain ⟨hE, k0, k1⟩ := own_cells hc11.own
                have hG11 := (hb611.block _ lG6).trans HG6.out
                obtain ⟨x0, x1, -⟩ := pair_cells hG11
                obtain ⟨h0, h1, -⟩ := pair_cells hc11.box
                have hwv : ∀ b, inV (avs ++ vs8) b → (w9.heap.size ≤ b ∨ (w7.heap.size ≤ b ∧ b < w8.heap.size)) := fun b ⟨u, y, hy, hb'⟩ => by
                  by_cases hu : u < avs.length
                  · rw [List.getElem?_append_left hu] at hy
                    exact .inl (HA.out.within (.inr ⟨u, y, hy, hb'⟩)).1
                  · rw [List.getElem?_append_right (by omega)] at hy
                    exact .inr (HR8.out.within (.inr ⟨_, y, hy, hb'⟩))
                have hAP : ∀ V, Below w11.heap.size w11 V → Calls Try.prog 12 #[gv5] V fun e V' => e = .returned (.bool true) ∧ Wrote (inV (avs ++ vs8)) V V' := fun V hbV => by
                  refine apart_any gv5 (avs ++ vs8) (als ++ GL) w7.heap.size V (hA5.later hbV) ?_ ?_ (fun l hl => ?_)
                  · have := hbV.size
                    have := hb911.size
                    omega
                  · rw [List.length_append, HNA.out, HNG.out]
                    omega
                  · rcases List.mem_append.1 hl with hl | hl
                    · have := HALL.out l hl
                      omega
                    · have := (HGLE.out l hl).2
                      omega
                have HAP := Nu.hid hAP
                have HWV := Nu.hid hwv
                have HE11 := Nu.hid hE
                have HB911 := Nu.hid hb911
                have HB611 := Nu.hid hb611
                have HG11 := Nu.hid hG11
                have HC11 := Nu.hid hc11
                have hlen5 : (als ++ GL).length = NA + t := by rw [List.length_append, HNA.out, HNG.out]
                rw [hlen5] at hgv5
                subst hgv5
                have eqP := eqEdge
                have t1 : ((77 : Int) == 77 && (78 : Int) == 78) = true := rfl
                have i5 : (es.length : Int) < (es.length : Int) + 1 := by omega
                clear hown5 hgrow5 hat5 hA5 hb911 hb611 hc11 hE hG11 hwv hAP hlen5 HOUT HNEWS HONE HL8
                go_wp2
                clear k0 k1 x0 x1 h0 h1 t1
                have hs911 := HB911.out.size
                go_loopw [134] (fun cv wr => ∃ j : Nat, j ≤ es.length ∧ cv = .int .i64 (j : Int) ∧ Below w11.heap.size w11 wr) (fun cv _ => es.length - (intOf cv).toNat)
                case atStart => exact ⟨0, Nat.zero_le _, rfl, Below.refl _ _⟩
                case round =>
                  obtain ⟨j, hj', rfl, hb⟩ := hrel
                  have HBj := Nu.hid hb
                  by_cases hje : j < es.length
                  · have hjei : (j : Int) < (es.length : Int) := by omega
                    have hj0 : (0 : Int) ≤ (j : Int) := by omega
                    obtain ⟨q, hq⟩ : ∃ q, es[j]? = some q := ⟨_, List.getElem?_eq_getElem hje⟩
                    have hgj := (hb.block _ (lt_of_block HG11.out)).trans HG11.out
                    obtain ⟨x0, x1, -⟩ := pair_cells hgj
                    obtain ⟨h0, h1, -⟩ := pair_cells (HC11.out.later hb).box
                    obtain ⟨b1', o1', e1', c0, c1⟩ := (HE11.out.later hb) j q hq
                    obtain ⟨b2', o2', e2', d0, d1⟩ := (HQ.out.hat.later (HB6.out.trans ((HB611.out.trans (hb.mono HB611.out.size)).mono hs6))) j q hq
                    cases e1'
                    subst e2'
                    simp only [Nat.zero_add] at c0 c1
                    have tq : (q.1 == q.1 && q.2 == q.2) = true := by simp
                    clear hb hq hgj
                    go_wp2_with fail
                    go_quiet (fail)
                    go_wp2
                    go_roundw
                    case rel => exact ⟨j + 1, by omega, by go_num, below_drewN HBj.out _⟩
                    case measure => simp [intOf]; omega
                  · have hd7 : ¬ ((j : Int) < (es.length : Int)) := by omega
                    obtain ⟨w12, rfl⟩ : ∃ w12, w12 = wr := ⟨wr, rfl⟩
                    have HAP2 := Nu.hid (HAP.out w12 hb)
                    have hs12 := hb.size
                    have hs611 := HB611.out.size
                    clear hb eqP
                    go_wp2_with (go_at_call 12; refine HAP2.out.mono ?_; rintro e w13 ⟨rfl, hw13⟩; have HW13 := Nu.hid hw13; clear hw13; refine Hid.out ?_)
                    refine Nu.hid ?_
                    have hb612 := HB611.out.trans (HBj.out.mono hs611)
                    have hQ13 : SetsQ w13 (some (p, gp, gt)) 20 M := (HQ6.out.later hb612).wrote HW13.out (fun b hb' h2 => by
                      have h1 := HQ6.out.lt hb'
                      rcases HWV.out b h2 with h3 | h3 <;> omega)
                    have hK13 : RowsZ w13 w8.heap.size (.slice ko t kc) kvs GL := (HK9.out.later (HB911.out.trans (HBj.out.mono hs911))).kept fun b hb' hlt => HW13.out.block b hlt (fun h2 => by
                      have h1 := HK9.out.within hb'
                      rcases HWV.out b h2 with h3 | h3 <;> omega)
                    have hgr13 := groups_any (some ⟨p, 0, none⟩) 20 M w13 hQ13.is
                    unfold GrpPost at hgr13
                    rw [HGLL.out] at hgr13
                    have HGR13 := Nu.hid hgr13
                    have HK13 := Nu.hid hK13
                    have hbw12 : Below w.heap.size w w12 := HB6.out.trans (hb612.mono hs6)
                    have hbw13 : Below w.heap.size w w13 := hbw12.trans (HW13.out.below hbw12.size (fun b h2 => by rcases HWV.out b h2 with h3 | h3 <;> omega))
                    have HBW13 := Nu.hid hbw13
                    clear hb612 hQ13 hK13 hgr13 hbw12 hbw13
                    go_wp2_with (go_at_call 8; refine HGR13.out.mono ?_; rintro e w14 ⟨v14, vs14, rfl, hr14, hb14⟩; obtain ⟨a14, c14, hv14⟩ := row_shape hr14; rw [HNG.out] at hv14; have HR14 := Nu.hid hr14; have HB14 := Nu.hid hb14; clear hr14 hb14; subst hv14; refine Hid.out ?_)
                    refine Nu.hid ?_
                    have HSL := Nu.hid (samelists_any _ _ _ _ _ _ _ w14 HR14.out (HK13.out.later HB14.out) (by rw [HNG.out]; omega) (fun l hl => by have := (HGLE.out l hl).2; omega))
                    go_wp2_with (go_at_call 11; refine HSL.out.mono ?_; rintro e w15 ⟨rfl, hb15⟩; have HB15 := Nu.hid hb15; clear hb15)
                    go_ret
                    have b14 := HBW13.out.trans (HB14.out.mono HBW13.out.size)
                    exact ⟨rfl, b14.trans (HB15.out.mono b14.size)⟩

set_option maxRecDepth 100000 in
/-- What the walk gives, for every argument and every world. -/
theorem contract (H : Type) (enc : TypeId × Value → H) (W : World) (base : Nat) (args : Array Value) (ds gs : List (DataW H)) (before : List MemPlace)
    (hval : ∀ (j : Nat) t v, Try.f3.params[j]? = some t → args[j]? = some v → Value.okWide Try.prog W .any base t v)
    (hW : DataW.Whole enc Try.prog Try.f3.params.toList Rows.compsMemorySpec.vars false W args.toList ds gs before)
    (hsz : (DataW.weightsEach Try.prog (Try.f3.params.toList ++ (OpenSpec.ofChange Rows.compsMemorySpec).bare.plain.varTypes Try.prog) (ds ++ gs)).all (· ≤ reachBytes) = true)
    :
    Calls Try.prog 3 args W fun e W' => ∃ v, e = .returned v ∧ Rows.compsMemorySpec.post enc Try.prog Try.f3 false true false false W args v W' := by
  have hW' := hW
  obtain ⟨p, q, hA0, hV, rfl, hfz, hnd⟩ := hW
  have hA : DataW.TrodAll enc Try.prog W 0 (fun _ => true) true Try.f3.params.toList args.toList ds p := hA0
  rw [Try.params3] at hA hval hsz
  obtain ⟨v0, vs0, d0, ds0, p0, q0, hargs, rfl, rfl, h0, r0⟩ := trodAll_cons hA
  obtain ⟨v1, vs1, d1, ds1, p1, q1, rfl, rfl, rfl, h1, r1⟩ := trodAll_cons r0
  obtain ⟨rfl, rfl, rfl⟩ := trodAll_nil r1
  obtain rfl : args = #[v0, v1] := by cases args; simp_all
  obtain ⟨rfl, rfl⟩ := trodVars_none hV
  have k0 := h0
  have lt0 : ∀ x ∈ p0, x.block < W.heap.size := by obtain ⟨m, hm⟩ := k0; exact DataW.trod_lt m _ _ _ hm
  obtain ⟨n0, a0, cap0, q0, rfl, x0, w0, u0⟩ := graph_of_trod (j := 0) (hval 0 24 v0 rfl rfl) h0 hsz rfl rfl
  obtain ⟨a1, len1, cap1, rfl⟩ := okWide_slice Try.underlying25 (hval 1 25 v1 rfl rfl)
  have k1 := h1
  have lt1 : ∀ x ∈ p1, x.block < W.heap.size := by obtain ⟨m, hm⟩ := k1; exact DataW.trod_lt m _ _ _ hm
  obtain ⟨q1, w1, u1⟩ := prs_of_trod (j := 1) h1 hsz rfl rfl
  have l1 := w1.hlen
  subst l1
  clear hA0
  refine (walk n0 a0 cap0 q0 a1 cap1 q1 W x0 w0 u0 w1 u1).mono fun e W' ⟨he, bel⟩ => ?_
  subst he
  exact ⟨_, rfl, _, _, _, [], _, [], hW', trodAll_mk1 (shut_bool Try.underlying4 _), (trodAll_cons_mk (Below.trod laidOut (by kernel_rfl) (of_decide_eq_true (by kernel_rfl)) k0 bel lt0) (trodAll_cons_mk (Below.trod laidOut (by kernel_rfl) (of_decide_eq_true (by kernel_rfl)) k1 bel lt1) trodAll_mk0)), rfl, bel.frame _, fun h => by cases h⟩

theorem laid_met (os : Os) : laidMet Try.prog Rows.compsMemoryRow.laid ((settled os).forCall (fun _ _ => 0) ⟨#[], #[.agg #[.int .i64 0, .slice none 0 0], .slice none 0 0], []⟩).memory :=
  laidMet_of_run' 100 (by kernel_rfl) (by kernel_rfl)
theorem reads (os : Os) {H : Type} (enc : TypeId × Value → H) : ∃ places, DataW.whole enc Try.prog ((settled os).forCall (fun _ _ => 0) ⟨#[], #[.agg #[.int .i64 0, .slice none 0 0], .slice none 0 0], []⟩).memory Try.f3.params.toList Rows.compsMemorySpec.vars false (#[.agg #[.int .i64 0, .slice none 0 0], .slice none 0 0] : Array Value).toList 8 = some ([.agg [.lit (.int .i64 0), .nil], .nil], [], places) :=
  ⟨[], by kernel_rfl⟩

set_option maxRecDepth 100000 in
theorem lifted (os : Os) (started : os.Started) (H : Type) (enc : TypeId × Value → H) (F : Stop.Interp) :
    ReturnsInHanded {} Try.checked os 3 .any ((OpenSpec.ofChange Rows.compsMemorySpec).preRow enc Try.prog Try.f3 Rows.compsMemoryRow.domain false Rows.compsMemoryRow.laid) (((OpenSpec.ofChange Rows.compsMemorySpec).at F).post enc Try.prog Try.f3 false true false false) := by
  obtain ⟨places, hx⟩ := reads os enc
  refine returnsInHanded_of_row (C := Try.checked) (s := (OpenSpec.ofChange Rows.compsMemorySpec)) own started (by kernel_rfl) Try.func3
    (witness_row_at (enc := enc) (C := Try.checked) false (settled os) #[.agg #[.int .i64 0, .slice none 0 0], .slice none 0 0] rfl (by kernel_rfl) (by kernel_rfl) (by kernel_rfl)
      (OpenSpec.preRow_of_cond 8 hx (by kernel_rfl) (fun k hk => by cases hk) (by kernel_rfl) (laid_met os))) ?_
  intro W base args ds gs before hval hW _ _ hsz _ _ _
  exact contract H enc W base args ds gs before hval hW hsz 

theorem said : Rows.CompsMemorySaid :=
  OpenClaim.holds_of_cond 3 Try.f3 rfl rfl rfl rfl rfl rfl rfl ⟨rfl, rfl, rfl, rfl, rfl⟩ rfl rfl rfl rfl rfl (by kernel_rfl) Try.func3 (by kernel_rfl)
    (of_decide_eq_true (by kernel_rfl)) (by unfold Func.isWrapper; first | (rw [if_pos (by decide +kernel)]; kernel_rfl) | (rw [if_neg (by decide +kernel)]; exact ⟨rfl, rfl⟩))
    (fun os started H enc _ F => by rw [OpenClaim.pre_eq_preRow]; exact lifted os started H enc F)

end lawMemory

theorem compsMemory_holds : Rows.CompsMemorySaid := lawMemory.said

#print axioms compsMemory_holds
end Go.Proofs.Ytoaaihbeehpgfab
