import Derived.Test.YtfkmldopfhdbkaaMg09
import Derived.Test.YtfkmldopfhdbkaaMg17
import Derived.Deep.Slices
import Derived.Test.YtfkmldopfhdbkaaMg04
import Derived.Test.YtfkmldopfhdbkaaMg10
import Derived.Laws.AppendOwnNone
import Derived.Deep.AppendLies
import Derived.Test.YtfkmldopfhdbkaaMg05
import Derived.Deep.QuietTactic
import Derived.BigQuiet
/-
  Edges and graphs that came in.
-/
namespace Go.Proofs.Ytfkmldopfhdbkaa
open Go.ChangeShapes Go.WideShapes Go.ChangeAt Go.RowKit

theorem bytesEdge : Try.prog.bytesOf 56 = 16 := by kernel_rfl
theorem cellsGraph : Try.prog.cellsOf 24 = 2 := by kernel_rfl
theorem cellsEdges : Try.prog.cellsOf 22 = 1 := by kernel_rfl

section
variable {H : Type} {enc : TypeId × Value → H} {W : World} {base : Nat} {sp : Nat → Bool} {held : Bool}

/-- Two numbers, read. -/
def TwoInts (cs : List Value) : Prop := ∃ a b : Int, cs = [.int .i64 a, .int .i64 b] ∧ In64 (a, b)

theorem two_of_ints {fuel : Nat} {cs : List Value} {x y : DataW H × List MemPlace} (hl : cs.length = 2) (h0 : DataW.trod enc Try.prog W base sp held fuel 3 ((cs.drop 0).take 1) = some x) (h1 : DataW.trod enc Try.prog W base sp held fuel 3 ((cs.drop 1).take 1) = some y) : TwoInts cs := by
  match cs, hl with
  | [u, v], _ =>
    obtain ⟨a, e0, _, w0⟩ := DataW.trod_int Try.underlying3 h0
    obtain ⟨b, e1, _, w1⟩ := DataW.trod_int Try.underlying3 h1
    simp at e0 e1
    subst e0
    subst e1
    exact ⟨a, b, rfl, bounds_i64 w0, bounds_i64 w1⟩

theorem two_arr {e t : TypeId} (he : Try.prog.underlying e = some (.array 2 t)) (ce : Try.prog.cellsOf e = 2) (ht : t = 3) {fuel : Nat} {cs : List Value} {x : DataW H × List MemPlace} (h : DataW.trod enc Try.prog W base sp held fuel e cs = some x) : TwoInts cs := by
  subst ht
  obtain ⟨xs, m, _, _, hl, hx, hf⟩ := DataW.trod_array he h
  rw [ce] at hl
  match xs, hx with
  | [y0, y1], _ =>
    have g0 := hf 0 (by omega)
    have g1 := hf 1 (by omega)
    simp only [cellsIntK] at g0 g1
    exact two_of_ints hl g0 g1

theorem two_struct {e : TypeId} {f0 f1 : Field} (he : Try.prog.underlying e = some (.struct #[f0, f1])) (ce : Try.prog.cellsOf e = 2) (o0 : f0.offset = 0) (o1 : f1.offset = 1) (t0 : f0.type = 3) (t1 : f1.type = 3)
    {fuel : Nat} {cs : List Value} {x : DataW H × List MemPlace} (h : DataW.trod enc Try.prog W base sp held fuel e cs = some x) : TwoInts cs := by
  obtain ⟨xs, m, _, _, hl, hx, hf⟩ := DataW.trod_struct he h
  rw [ce] at hl
  match xs, hx with
  | [y0, y1], _ =>
    have g0 := hf 0 f0 rfl
    have g1 := hf 1 f1 rfl
    simp only [o0, o1, t0, t1, cellsIntK] at g0 g1
    exact two_of_ints hl g0 g1

theorem two_edge {fuel : Nat} {cs : List Value} {x : DataW H × List MemPlace} (h : DataW.trod enc Try.prog W base sp held fuel 56 cs = some x) : TwoInts cs := two_struct Try.underlying56 cellsEdge rfl rfl rfl rfl h

/-- A number and a list, read. -/
theorem num_list {e : TypeId} {f0 f1 : Field} (he : Try.prog.underlying e = some (.struct #[f0, f1])) (o0 : f0.offset = 0) (o1 : f1.offset = 1) (t0 : f0.type = 3) (t1 : f1.type = 22) (c1 : Try.prog.cellsOf 22 = 1)
    {fuel : Nat} {u v : Value} {x : DataW H × List MemPlace} (h : DataW.trod enc Try.prog W base sp held fuel e [u, v] = some x) :
    ∃ (m : Nat) (y0 y1 : DataW H × List MemPlace), DataW.trod enc Try.prog W base sp held m 3 [u] = some y0 ∧ DataW.trod enc Try.prog W base sp held m 22 [v] = some y1 ∧ x.1 = .agg [y0.1, y1.1] := by
  obtain ⟨xs, m, _, hxx, hl, hx, hf⟩ := DataW.trod_struct he h
  match xs, hx with
  | [y0, y1], _ =>
    have g0 := hf 0 f0 rfl
    have g1 := hf 1 f1 rfl
    simp only [o0, o1, t0, t1, cellsIntK, c1] at g0 g1
    exact ⟨m, y0, y1, by simpa using g0, by simpa using g1, by rw [hxx]; rfl⟩

/-- What is known of a list of pairs that came in. -/
structure PairsIn (w : World) (ao : Option Addr) (len cap : Nat) (qs : List (Int × Int)) : Prop where
  hlen : qs.length = len
  hat : EdgesAt w ao qs
  hnil : ao = none → qs = [] ∧ cap = 0
  hwf : ∀ (j : Nat) (p : Int × Int), qs[j]? = some p → In64 p
  hfit : len ≤ cap

theorem pairs_in {t e : TypeId} {fuel : Nat} {a : Option Addr} {len cap : Nat} {x : DataW H × List MemPlace} (ht : Try.prog.underlying t = some (.slice e)) (ce : Try.prog.cellsOf e = 2)
    (hel : ∀ (n : Nat) (cs : List Value) (y : DataW H × List MemPlace), DataW.trod enc Try.prog W base (fun _ => true) held n e cs = some y → TwoInts cs) (h : DataW.trod enc Try.prog W base (fun _ => true) held fuel t [.slice a len cap] = some x) :
    ∃ qs, PairsIn W a len cap qs ∧ ((x.1 = .nil ∧ qs = []) ∨ ∃ es rest, x.1 = .slice es rest ∧ len ≤ es.length) := by
  rcases Deep.open_slice ht h with ⟨hcs, hx⟩ | ⟨ad, l, c, m, n, D, Pl, hcs, _, hl, hm, hmm, rfl, hcell⟩
  · simp at hcs
    obtain ⟨rfl, rfl, rfl⟩ := hcs
    subst hx
    exact ⟨[], ⟨rfl, EdgesAt.nil _ _, fun _ => ⟨rfl, rfl⟩, fun j p hj => by simp at hj, Nat.le_refl _⟩, .inl ⟨rfl, rfl⟩⟩
  · simp at hcs
    obtain ⟨rfl, rfl, rfl⟩ := hcs
    have hmc : m = cap := by simpa using hmm
    have each : ∀ i, i < m → ∃ q : Int × Int, W.cell? (ad.add (i * 2)) = some (.int .i64 q.1) ∧ W.cell? (ad.add (i * 2 + 1)) = some (.int .i64 q.2) ∧ In64 q := fun i hi => by
      obtain ⟨cs', h1, h2⟩ := hcell i hi
      rw [ce] at h1
      obtain ⟨_, hlen, hc⟩ := World.cells?_some h1
      obtain ⟨u, v, rfl, hw⟩ := hel n cs' _ h2
      have e0 := hc 0 (by omega)
      have e1 := hc 1 (by omega)
      rw [Deep.add_add] at e0 e1
      exact ⟨(u, v), by simpa using e0, by simpa using e1, hw⟩
    obtain ⟨q, hq⟩ := Deep.choose_lt each
    refine ⟨(List.range len).map q, ⟨by simp, fun j p hj => ?_, fun h => (by cases h), fun j p hj => ?_, hl⟩, .inr ⟨_, _, rfl, by simp⟩⟩
    · have hi : j < len := by
        have := (List.getElem?_eq_some_iff.1 hj).1
        simpa using this
      simp [hi] at hj
      subst hj
      obtain ⟨c0, c1, _⟩ := hq j (by omega)
      obtain ⟨b, o, s⟩ := ad
      have hsp : s = none := by
        obtain ⟨c00, _⟩ := hq 0 (by omega)
        simpa [Addr.add] using World.cell?_spot c00
      subst hsp
      have ea : ∀ k, ((⟨b, o, none⟩ : Addr).add k) = ⟨b, o + k, none⟩ := fun k => by
        by_cases h0 : k = 0 <;> simp [Addr.add, h0]
      rw [ea] at c0 c1
      exact ⟨b, o, rfl, c0, by rw [← Nat.add_assoc] at c1; exact c1⟩
    · have hi : j < len := by
        have := (List.getElem?_eq_some_iff.1 hj).1
        simpa using this
      simp [hi] at hj
      subst hj
      exact (hq j (by omega)).2.2

end

set_option maxRecDepth 100000 in
/-- An edge that came in. -/
theorem edge_of_trod {H : Type} {enc : TypeId × Value → H} {W : World} {base : Nat} {v : Value} {d : DataW H} {p : List MemPlace} (hval : Value.okWide Try.prog W .any base 56 v)
    (h : DataW.Trod enc Try.prog W 0 (fun _ => true) true 56 v d p) : ∃ q : Int × Int, v = edgeVal q ∧ In64 q := by
  obtain ⟨cs, rfl, hcs⟩ := okWide_struct Try.underlying56 hval
  rw [cellsEdge] at hcs
  obtain ⟨fuel, hf⟩ := h
  obtain ⟨cl⟩ := cs
  match cl, hcs with
  | [u, v], _ =>
    obtain ⟨a, b, e, hw⟩ := two_edge hf
    simp [Value.cells] at e
    obtain ⟨rfl, rfl⟩ := e
    exact ⟨(a, b), rfl, hw⟩

set_option maxRecDepth 100000 in
/-- A graph that came in. -/
theorem graph_of_trod {H : Type} {enc : TypeId × Value → H} {W : World} {base : Nat} {v : Value} {d : DataW H} {p : List MemPlace} {ts : List TypeId} {ds : List (DataW H)} {j : Nat} (hval : Value.okWide Try.prog W .any base 24 v)
    (h : DataW.Trod enc Try.prog W 0 (fun _ => true) true 24 v d p) (hsz : (DataW.weightsEach Try.prog ts ds).all (· ≤ reachBytes) = true) (hts : ts[j]? = some 24) (hds : ds[j]? = some d) :
    ∃ (n : Int) (a : Option Addr) (cap : Nat) (qs : List (Int × Int)), v = .agg #[.int .i64 n, .slice a qs.length cap] ∧ (-9223372036854775808 ≤ n ∧ n ≤ 9223372036854775807) ∧ PairsIn W a qs.length cap qs ∧ qs.length * 16 ≤ 140737488351232 := by
  obtain ⟨cs, rfl, hcs⟩ := okWide_struct Try.underlying24 hval
  rw [cellsGraph] at hcs
  obtain ⟨fuel, hf⟩ := h
  obtain ⟨cl⟩ := cs
  match cl, hcs with
  | [u, v], _ =>
    obtain ⟨m, y0, y1, g0, g1, hxx⟩ := num_list Try.underlying24 rfl rfl rfl rfl cellsEdges hf
    obtain ⟨n, e0, hy0, w0⟩ := DataW.trod_int Try.underlying3 g0
    simp at e0
    subst e0
    have hsl : ∃ a len cap, v = .slice a len cap := by
      rcases Deep.open_slice Try.underlying22 g1 with ⟨hc, _⟩ | ⟨ad, l, c, _, _, _, _, hc, _⟩
      · simp at hc; exact ⟨_, _, _, hc⟩
      · simp at hc; exact ⟨_, _, _, hc⟩
    obtain ⟨a, len, cap, rfl⟩ := hsl
    obtain ⟨qs, hq, hd⟩ := pairs_in Try.underlying22 cellsEdge (fun n cs y hy => two_edge hy) g1
    have hql := hq.hlen
    subst hql
    refine ⟨n, a, cap, qs, rfl, bounds_i64 w0, hq, ?_⟩
    rcases hd with ⟨_, rfl⟩ | ⟨es, rest, hd, hle⟩
    · simp
    · have hde : d = .agg [y0.1, .slice es rest] := by
        rw [hd] at hxx
        exact hxx
      subst hde
      have hw := List.all_eq_true.1 hsz _ (DataW.weights_mem_each hts hds ((es.length + rest.length) * Try.prog.bytesOf 56) (by simp [DataW.weights, DataW.weightsEach, Try.underlying24, Try.underlying22]))
      rw [bytesEdge] at hw
      have hw2 : (es.length + rest.length) * 16 ≤ reachBytes := of_decide_eq_true hw
      simp only [reachBytes] at hw2
      omega

end Go.Proofs.Ytfkmldopfhdbkaa

/-
  The graph that came in, its box, and lists that came in.
-/
namespace Go.Proofs.Ytfkmldopfhdbkaa
open Go.RowKit Go.Sort

/-- The graph that came in, its box, and lists that came in. -/
structure GR (w w0 : World) (n : Int) (ao : Option Addr) (ca : Nat) (es : List (Int × Int)) (xo : Option Addr) (ls : List (List Int)) : Prop where
  box : w.heap[w0.heap.size]? = some (.cells #[.int .i64 n, .slice ao es.length ca] 24 (0, 0))
  edges : EdgesAt w ao es
  rows : RwsAt w xo ls
  low : Below w0.heap.size w0 w

theorem GR.later {w w' w0 : World} {n : Int} {ao : Option Addr} {ca : Nat} {es : List (Int × Int)} {xo : Option Addr} {ls : List (List Int)} (h : GR w w0 n ao ca es xo ls) (hb : Below w.heap.size w w') : GR w' w0 n ao ca es xo ls :=
  ⟨(hb.block _ (lt_of_block h.box)).trans h.box, h.edges.later hb, h.rows.later hb, h.low.trans (hb.mono h.low.size)⟩

theorem GR.start {w0 : World} {n : Int} {ao : Option Addr} {ca : Nat} {es : List (Int × Int)} {xo : Option Addr} {ls : List (List Int)} (he : EdgesAt w0 ao es) (hx : RwsAt w0 xo ls) : GR (w0.alloc (.cells #[.int .i64 n, .slice ao es.length ca] 24)) w0 n ao ca es xo ls := by
  have hb : Below w0.heap.size w0 (w0.alloc (.cells #[.int .i64 n, .slice ao es.length ca] 24)) := (Below.refl _ _).alloc (Nat.le_refl _) _
  exact ⟨heap_alloc_new w0 _, he.later hb, hx.later hb, hb⟩

theorem GR.cells {w w0 : World} {n : Int} {ao : Option Addr} {ca : Nat} {es : List (Int × Int)} {xo : Option Addr} {ls : List (List Int)} (h : GR w w0 n ao ca es xo ls) : w.cell? ⟨w0.heap.size, 0, none⟩ = some (.int .i64 n) ∧ w.cell? ⟨w0.heap.size, 1, none⟩ = some (.slice ao es.length ca) := by
  obtain ⟨g0, g1, -⟩ := pair_cells h.box
  exact ⟨g0, g1⟩

end Go.Proofs.Ytfkmldopfhdbkaa

/-
  The document's copy of a rotation; lists that are the same.
-/
namespace Go.Proofs.Ytfkmldopfhdbkaa
open Go.RowKit Go.Sort

set_option maxRecDepth 100000 in
set_option maxHeartbeats 4000000 in
theorem r11copy_any (xo : Option Addr) (xc : Nat) (ls : List (List Int)) (w : World) (hx : RwsAt w xo ls) (hl : ls.length ≤ 5864062014804) :
    Calls Try.prog 12 #[.slice xo ls.length xc] w (RowsPost ls w) := by
  have HX := Nu.hid hx
  obtain ⟨N, hN⟩ : ∃ N, N = ls.length := ⟨_, rfl⟩
  rw [← hN] at hl ⊢
  have HN := Nu.hid hN
  clear hx hN
  go_enter Try.func12, Try.ntmps12
  go_wp2
  go_loopw [3, 4] (fun c3 c4 wr => ∃ (k : Nat) (vs : List Value), k ≤ N ∧ c4 = .int .i64 (k : Int) ∧ RowsZ wr w.heap.size c3 vs (ls.take k) ∧ Below w.heap.size w wr) (fun _ c4 _ => N - (intOf c4).toNat)
  case atStart => exact ⟨0, [], Nat.zero_le _, rfl, RowsZ.nil _ _, Below.refl _ _⟩
  case round =>
    obtain ⟨k, vs, hk, rfl, hR, hb⟩ := hrel
    obtain ⟨W0, rfl⟩ : ∃ W0, W0 = wr := ⟨_, rfl⟩
    obtain ⟨uo, q, uc, rfl⟩ : ∃ a q c, u3 = .slice a q c := by
      obtain ⟨a, c, e⟩ := row_shape hR
      exact ⟨_, _, _, e⟩
    have HR := Nu.hid hR
    have HB := Nu.hid hb
    have hsz := hb.size
    have hwk : IntKind.i64.wrap ((k : Int) + 1) = (k : Int) + 1 := by rw [IntKind.wrap_i64]; omega
    by_cases hlt : k < N
    · have hlti : (k : Int) < (N : Int) := by omega
      have hk0 : (0 : Int) ≤ (k : Int) := by omega
      obtain ⟨l, hlk⟩ : ∃ l, ls[k]? = some l := ⟨_, List.getElem?_eq_getElem (by rw [← HN.out]; exact hlt)⟩
      obtain ⟨b, o, A, C, rfl, hcell, hL, hln, hC, hC2⟩ := HX.out k l hlk
      have hbl : b < w.heap.size := block_lt_of_cell hcell
      have hcr := (hb.cell (p := ⟨b, o + k, none⟩) hbl).trans hcell
      have HL := Nu.hid (hL.later hb)
      have hblW : b < W0.heap.size := by omega
      have HLK := Nu.hid hlk
      obtain ⟨p, hp⟩ : ∃ p, p = l.length := ⟨_, rfl⟩
      rw [← hp] at hcr HL hln
      have HP := Nu.hid hp
      clear hR hb hcell hL hlk hp hC hC2
      go_wp2_with (at_builtin; refine wpList_copy_lst rfl _ _ rfl W0 A p C l rfl rfl HL.out hln ?_; refine Hid.out ?_)
      refine Nu.hid ?_
      intro gb c w2 ho2 hgb hgl hnc hb2
      have HO2 : Hid (OwnZ w2 W0.heap.size (.slice (some ⟨gb, 0, none⟩) p c) l) := by
        unfold OwnZ
        rw [← HP.out]
        exact ho2
      have hs2 := hb2.size
      have HB2 := Nu.hid hb2
      clear ho2 hcr hb2
      go_wp2_with (at_builtin; refine wpList_pushRow rfl _ _ 26 Try.underlying26 rfl W0 w2 w.heap.size (.slice uo q uc) vs (ls.take k) _ l HR.out HB2.out HO2.out hsz (by simp; omega) rfl rfl ?_; refine Hid.out ?_)
      refine Nu.hid ?_
      intro v3 w3 hr3 hb3
      have HR3 : Hid (RowsZ w3 w.heap.size v3 (vs ++ [.slice (some ⟨gb, 0, none⟩) p c]) (ls.take (k + 1))) := by
        have e1 : ls.take (k + 1) = ls.take k ++ [l] := by
          rw [List.take_add_one, HLK.out]
          rfl
        rw [e1]
        exact hr3
      have HB3 := Nu.hid (HB.out.trans hb3)
      clear hr3 hb3
      go_wp2
      go_roundw
      case rel => exact ⟨k + 1, _, by omega, by go_num, HR3.out, HB3.out⟩
      case measure => simp [intOf]; omega
    · have hd : ¬ (k : Int) < (N : Int) := by omega
      have HRE : Hid (RowsZ W0 w.heap.size (.slice uo q uc) vs ls) := by
        have e1 : ls.take k = ls := List.take_of_length_le (by rw [← HN.out]; omega)
        rw [e1] at hR
        exact hR
      clear hR hb
      go_wp2
      go_ret
      exact ⟨_, vs, rfl, HRE.out, HB.out⟩

end Go.Proofs.Ytfkmldopfhdbkaa

/-
  Lists of edges in memory that a call makes itself.
-/
namespace Go.Proofs.Ytfkmldopfhdbkaa
open Go.RowKit

theorem Try.infoEdge : (Try.prog.info? 56).map (fun i => (i.zero, i.size, i.bytes)) = some (some (.agg #[.int .i64 0, .int .i64 0]), 2, 16) := by kernel_rfl

def flatE (ps : List (Int × Int)) : List Value := ps.flatMap fun p => [.int .i64 p.1, .int .i64 p.2]

theorem flatE_snoc (ps : List (Int × Int)) (p : Int × Int) : flatE (ps ++ [p]) = flatE ps ++ [.int .i64 p.1, .int .i64 p.2] := by simp [flatE]

theorem flatE_length : ∀ ps : List (Int × Int), (flatE ps).length = ps.length * 2
  | [] => rfl
  | p :: ps => by
    have := flatE_length ps
    simp [flatE] at this ⊢
    omega

theorem flatE_at : ∀ (ps : List (Int × Int)) (j : Nat) (p : Int × Int), ps[j]? = some p → (flatE ps)[j * 2]? = some (.int .i64 p.1) ∧ (flatE ps)[j * 2 + 1]? = some (.int .i64 p.2)
  | [], j, p, h => by simp at h
  | q :: ps, 0, p, h => by
    simp at h
    subst h
    simp [flatE]
  | q :: ps, j + 1, p, h => by
    simp at h
    have := flatE_at ps j p h
    have e : (j + 1) * 2 = j * 2 + 1 + 1 := by omega
    rw [e]
    simpa [flatE] using this

theorem addrE (g j : Nat) : ((⟨g, 0, none⟩ : Addr).add j) = ⟨g, j, none⟩ := by
  by_cases h : j = 0
  · simp [Addr.add, h]
  · simp [Addr.add, h]

/-- v is a slice of the edges es, laid since block B. -/
def OwnE (w : World) (B : Nat) (v : Value) (es : List (Int × Int)) : Prop := w.ownsRow B 56 2 v es.length (flatE es)

theorem OwnE.form {w : World} {B : Nat} {v : Value} {es : List (Int × Int)} (h : OwnE w B v es) : ∃ ao cap, v = .slice ao es.length cap ∧ es.length ≤ cap ∧ cap ≤ maxLen ∧ EdgesAt w ao es ∧ (∀ x, ao = some x → B ≤ x.block ∧ x.block < w.heap.size) := by
  have h' := h
  unfold OwnE at h'
  rcases h.2 with ⟨rfl, h0⟩ | ⟨g, cap, cur, rfl, hg, hh, hc, hm, _⟩
  · refine ⟨none, 0, by rw [h0], by omega, Nat.zero_le _, fun j p hj => ?_, fun x h => by cases h⟩
    rw [List.length_eq_zero_iff.1 h0] at hj
    simp at hj
  · refine ⟨_, cap, rfl, hc, hm, fun j p hj => ⟨g, 0, rfl, ?_⟩, fun x h => by cases h; exact ⟨hg, lt_of_block hh⟩⟩
    have hcl := World.ownsRow.cells h' (g := g) rfl
    simp only [addrE] at hcl
    obtain ⟨h0, h1⟩ := flatE_at es j p hj
    rw [Nat.zero_add]
    exact ⟨hcl _ _ h0, hcl _ _ h1⟩

theorem OwnE.below {w w' : World} {B A : Nat} {v : Value} {ps : List (Int × Int)} (h : OwnE w B v ps) (hb : Below A w w') (hA : w.heap.size ≤ A) : OwnE w' B v ps := by
  refine ⟨h.1, ?_⟩
  rcases h.2 with h | ⟨g, cap, cur, e, hgB, hh, hr⟩
  · exact .inl h
  · exact .inr ⟨g, cap, cur, e, hgB, (hb.block g (by have := lt_of_block hh; omega)).trans hh, hr⟩

theorem OwnE.alloc {w : World} {B : Nat} {v : Value} {ps : List (Int × Int)} (h : OwnE w B v ps) (o : Obj) : OwnE (w.alloc o) B v ps := World.ownsRow.alloc h o

theorem OwnE.some {w : World} {B : Nat} {v : Value} {es : List (Int × Int)} (h : OwnE w B v es) (hn : v ≠ .slice none 0 0) : ∃ g cap, v = .slice (some ⟨g, 0, none⟩) es.length cap := by
  rcases h.2 with ⟨rfl, _⟩ | ⟨g, cap, cur, rfl, _⟩
  · exact absurd rfl hn
  · exact ⟨g, cap, rfl⟩

theorem OwnE.far {w : World} {B b : Nat} {v : Value} {ps : List (Int × Int)} (h : OwnE w B v ps) (hb : b < B) : v.ownBlock ≠ Option.some b := by
  obtain ⟨ao, cap, rfl, _, _, _, hx⟩ := h.form
  cases ao with
  | none => simp [Value.ownBlock]
  | some x => have := hx x rfl; simp [Value.ownBlock]; omega

/-- Stores into another block leave it; it may be said of an earlier block. -/
theorem OwnE.set2 {w : World} {B A b : Nat} {v : Value} {ps : List (Int × Int)} (h : OwnE w B v ps) (hA : A ≤ b ∧ b < B) (x y : Value) : OwnE ((w.setCell ⟨b, 0, none⟩ x).setCell ⟨b, 1, none⟩ y) A v ps := by
  refine ⟨h.1, ?_⟩
  rcases h.2 with h | ⟨g, cap, cur, e, hgB, hh, hr⟩
  · exact .inl h
  · refine .inr ⟨g, cap, cur, e, by omega, ?_, hr⟩
    rw [heap_setCell_other _ ⟨b, 1, none⟩ g y (by simp; omega), heap_setCell_other _ ⟨b, 0, none⟩ g x (by simp; omega)]
    exact hh

theorem OwnE.lower {w : World} {B A : Nat} {v : Value} {ps : List (Int × Int)} (h : OwnE w B v ps) (hA : A ≤ B) : OwnE w A v ps := by
  refine ⟨h.1, ?_⟩
  rcases h.2 with h | ⟨g, cap, cur, e, hgB, hh, hr⟩
  · exact .inl h
  · exact .inr ⟨g, cap, cur, e, by omega, hh, hr⟩

theorem OwnE.nil (w : World) (B : Nat) : OwnE w B (.slice none 0 0) [] := World.ownsRow_nil _ _ _ _

theorem new_two_e (W : World) (k : Nat) (hk : W.heap.size = k) (a b : Value) (t : TypeId) : ∀ j u, [a, b][j]? = some u → (W.alloc (.cells #[a, b] t)).cell? ((⟨k, 0, none⟩ : Addr).add j) = some u := by
  subst hk
  exact World.news_of_block (cs := #[a, b]) (t := t) (fr := (0, 0)) (heap_alloc_new W _)

end Go.Proofs.Ytfkmldopfhdbkaa

/-
  The document's own Copy.
-/
namespace Go.Proofs.Ytfkmldopfhdbkaa
open Go.RowKit Go.Sort

set_option maxRecDepth 100000 in
set_option maxHeartbeats 4000000 in
theorem rcopy_any (n : Int) (ao : Option Addr) (ca : Nat) (es : List (Int × Int)) (w : World) (he : EdgesAt w ao es) (hl : es.length * 16 ≤ 140737488355328) :
    Calls Try.prog 11 #[graphVal n ao es.length ca] w fun e w' => ∃ v, e = .returned (.agg #[.int .i64 n, v]) ∧ OwnE w' w.heap.size v es ∧ Below w.heap.size w w' := by
  obtain ⟨i0, hi, hz0, hz1, hz2⟩ := info_parts Try.infoEdge
  have HE := Nu.hid he
  clear he
  unfold graphVal
  go_enter Try.func11, Try.ntmps11
  go_wp2
  go_loopw [3, 4] (fun v c wr => ∃ (k : Nat) (L : List (Int × Int)), k ≤ es.length ∧ c = .int .i64 k ∧ L = es.take k ∧ OwnE wr (w.heap.size + 2) v L ∧ wr.heap[w.heap.size]? = some (.cells #[.int .i64 n, .slice ao es.length ca] 24 (0, 0)) ∧ wr.heap[w.heap.size + 1]? = some (.cells #[.int .i64 0, .slice none 0 0] 24 (0, 0)) ∧ Below w.heap.size w wr) (fun _ c _ => es.length - (intOf c).toNat)
  case atStart =>
    refine ⟨0, [], Nat.zero_le _, rfl, by simp, OwnE.nil _ _, ?_, ?_, ((Below.refl _ _).alloc (Nat.le_refl _) _).alloc (by simp) _⟩
    · rw [Below.heap_alloc _ _ _ (by simp)]
      exact heap_alloc_new w _
    · have := heap_alloc_new (w.alloc (.cells #[.int .i64 n, .slice ao es.length ca] 24)) (.cells #[.int .i64 0, .slice none 0 0] 24)
      simpa using this
  case round =>
    obtain ⟨k, L, hk, rfl, hL, hrow, hg1, hg2, hb⟩ := hrel
    obtain ⟨a0, a1, -⟩ := pair_cells hg1
    obtain ⟨b0, b1, bf⟩ := pair_cells hg2
    have hs1 := lt_of_block hg1
    have hs2 := lt_of_block hg2
    have hLl : L.length = k := by rw [hL]; simp; omega
    have HG1 := Nu.hid hg1
    have HG2 := Nu.hid hg2
    have HL := Nu.hid hL
    have HROW := Nu.hid hrow
    have HB := Nu.hid hb
    have HLL := Nu.hid hLl
    have hs0 : w.heap.size ≤ wr.heap.size := hb.size
    clear hg1 hg2 hL hLl
    by_cases hlt : k < es.length
    · have hlti : (k : Int) < (es.length : Int) := by omega
      have hk0 : (0 : Int) ≤ (k : Int) := by omega
      obtain ⟨p, hp⟩ : ∃ p, es[k]? = some p := ⟨_, List.getElem?_eq_getElem hlt⟩
      obtain ⟨b, o, rfl, c0, c1⟩ := (HE.out.later hb) k p hp
      have hbl : b < wr.heap.size := block_lt_of_cell c0
      have HSN : Hid (es.take (k + 1) = L ++ [p]) := by
        show es.take (k + 1) = L ++ [p]
        rw [HL.out]
        exact Si.take_snoc hp
      clear hp hb hrow
      go_wp2_with (at_builtin; refine wpList_append_own _ rfl _ _ 22 rfl (w.heap.size + 2) 56 i0 (.agg #[.int .i64 0, .int .i64 0]) 2 16 Try.underlying22 hi hz0 hz1 hz2 rfl (by decide) _ _ _ rfl (World.ownsRow.alloc HROW.out _) ⟨wr.heap.size, 0, none⟩ 1 1 [.int .i64 p.1, .int .i64 p.2] rfl rfl (new_two_e _ _ rfl _ _ _) (by simp [Value.oneCell']) (by rw [HLL.out]; unfold maxLen; omega) (by rw [HLL.out]; omega) (by simp; omega) ?_; refine Hid.out ?_)
      refine Nu.hid ?_
      intro v' w3 hrow3 hg3 _
      have HROW3 : Hid (OwnE w3 (w.heap.size + 2) v' (L ++ [p])) := by
        unfold OwnE
        rw [flatE_snoc, List.length_append]
        exact hrow3
      have HG13 := Nu.hid ((hg3.block _ (by simp; omega) (fun h => HROW.out.far (by omega) h.symm)).trans ((Below.heap_alloc _ _ _ hs1).trans HG1.out))
      have HG23 := Nu.hid ((hg3.block _ (by simp; omega) (fun h => HROW.out.far (by omega) h.symm)).trans ((Below.heap_alloc _ _ _ hs2).trans HG2.out))
      have HB3 := Nu.hid ((HB.out.alloc hs0 _).grown hg3 (by simp; omega) (fun j hj => by have := (World.ownsRow.lt HROW.out j hj).1; omega))
      clear hrow3 hg3
      go_wp2
      go_roundw
      case rel => exact ⟨k + 1, _, by omega, by go_num, HSN.out.symm, HROW3.out, HG13.out, HG23.out, HB3.out⟩
      case measure => simp [intOf]; omega
    · have hd : ¬ ((k : Int) < (es.length : Int)) := by omega
      have hLe : L = es := by
        rw [HL.out]
        exact List.take_of_length_le (by omega)
      have HLE := Nu.hid hLe
      clear hLe hb hrow
      obtain ⟨ao', cap', rfl, _, _, _, hx⟩ := HROW.out.form
      have HX := Nu.hid hx
      clear hx
      go_wp2
      have hgr := pair_set HG2.out (.int .i64 n) (.slice ao' L.length cap')
      obtain ⟨r0, r1, -⟩ := pair_cells hgr
      refine bodyPost_ret (v := .agg #[.int .i64 n, .slice ao' L.length cap']) (by simp [results, Try.results11, go_sem, r0, r1]) rfl ?_
      refine ⟨_, rfl, ?_, (HB.out.setCell (by simp) _).setCell (by simp) _⟩
      rw [← HLE.out]
      exact HROW.out.set2 (by omega) _ _

end Go.Proofs.Ytfkmldopfhdbkaa

/-
  What the laws of faces share: calls with copies, answers in one form.
-/
namespace Go.Proofs.Ytfkmldopfhdbkaa
open Go.RowKit Go.Sort

/-- Nothing in case of an error. -/
def Fa.orN {α : Type} (c : Int) (l : List α) : List α := if c = 0 then l else []
theorem Fa.orN_ok {α : Type} {c : Int} (h : c = 0) (l : List α) : Fa.orN c l = l := if_pos h
theorem Fa.orN_bad {α : Type} {c : Int} (h : c ≠ 0) (l : List α) : Fa.orN c l = [] := if_neg h

theorem FacQ.form {c : Int} {R : List (List Int)} {w w' : World} {e : Ending} (h : FacQ c R w e w') : ∃ o q vs, e = .returned (.tuple #[.slice o (Fa.orN c R).length q, .int .i64 c]) ∧ RowsZ w' w.heap.size (.slice o (Fa.orN c R).length q) vs (Fa.orN c R) ∧ Below w.heap.size w w' := by
  obtain ⟨hb, ⟨h0, rfl⟩ | ⟨h0, v, vs, rfl, hr⟩⟩ := h
  · rw [Fa.orN_bad h0]
    exact ⟨none, 0, [], rfl, RowsZ.nil _ _, hb⟩
  · rw [Fa.orN_ok h0, h0]
    obtain ⟨o, q, rfl⟩ := row_shape hr
    exact ⟨o, q, vs, rfl, hr, hb⟩
theorem LefQ.form {c : Int} {L : List Int} {w w' : World} {e : Ending} (h : LefQ c L w e w') : ∃ o q, e = .returned (.tuple #[.slice o (Fa.orN c L).length q, .int .i64 c]) ∧ OwnZ w' w.heap.size (.slice o (Fa.orN c L).length q) (Fa.orN c L) ∧ Below w.heap.size w w' := by
  obtain ⟨hb, ⟨h0, rfl⟩ | ⟨h0, v, rfl, hr⟩⟩ := h
  · rw [Fa.orN_bad h0]
    exact ⟨none, 0, rfl, OwnZ.nil _ _, hb⟩
  · rw [Fa.orN_ok h0, h0]
    obtain ⟨o, q, rfl, -⟩ := hr.form
    exact ⟨o, q, rfl, hr, hb⟩

/-- The graph that came in, its box, and the lists; what is known of their sizes. -/
structure GS (w : World) (n : Int) (ao : Option Addr) (ca : Nat) (es : List (Int × Int)) (xo : Option Addr) (ls : List (List Int)) (W : World) : Prop where
  gr : GR W w n ao ca es xo ls
  e16 : es.length * 16 ≤ 140737488351232
  l24 : ls.length * 24 ≤ 140737488351232
section
variable {w : World} {n : Int} {ao : Option Addr} {ca : Nat} {es : List (Int × Int)} {xo : Option Addr} {xc : Nat} {ls : List (List Int)} {U U' : World}
theorem GS.later (h : GS w n ao ca es xo ls U) (hb : Below U.heap.size U U') : GS w n ao ca es xo ls U' := ⟨h.gr.later hb, h.e16, h.l24⟩
theorem GS.cells (h : GS w n ao ca es xo ls U) : U.cell? ⟨w.heap.size, 0, none⟩ = some (.int .i64 n) ∧ U.cell? ⟨w.heap.size, 1, none⟩ = some (.slice ao es.length ca) := h.gr.cells

theorem GS.copyG (h : GS w n ao ca es xo ls U) : Calls Try.prog 11 #[.agg #[.int .i64 n, .slice ao es.length ca]] U fun e w' => ∃ co cc, e = .returned (.agg #[.int .i64 n, .slice co es.length cc]) ∧ EdgesAt w' co es ∧ Below U.heap.size U w' := by
  have := h.e16
  refine (rcopy_any n ao ca es U h.gr.edges (by omega)).mono ?_
  rintro e w' ⟨v, rfl, ho, hb⟩
  obtain ⟨co, cc, rfl, -, -, he, -⟩ := ho.form
  exact ⟨co, cc, rfl, he, hb⟩
theorem GS.copyR (h : GS w n ao ca es xo ls U) : Calls Try.prog 12 #[.slice xo ls.length xc] U fun e w' => ∃ yo yc, e = .returned (.slice yo ls.length yc) ∧ RwsAt w' yo ls ∧ Below U.heap.size U w' := by
  have := h.l24
  refine (r11copy_any xo xc ls U h.gr.rows (by omega)).mono ?_
  rintro e w' ⟨v, vs, rfl, hr, hb⟩
  obtain ⟨yo, yc, rfl, hy, -⟩ := hr.rws (fun l hl => by
    obtain ⟨j, hj⟩ := List.getElem?_of_mem hl
    obtain ⟨b, o, A, C, -, -, -, h1, -⟩ := h.gr.rows j l hj
    exact h1)
  exact ⟨yo, yc, rfl, hy, hb⟩

/-- Copies, then a call. -/
theorem GS.of (h : GS w n ao ca es xo ls U) {co yo : Option Addr} {cc yc : Nat} {W : World} (he : EdgesAt W co es) (hx : RwsAt W yo ls) :
    Calls Try.prog 10 #[.agg #[.int .i64 n, .slice co es.length cc], .slice yo ls.length yc] W fun e w' => ∃ o q vs, e = .returned (.tuple #[.slice o (Fa.orN (Ro.check n es ls).2 (Fa.all es ls)).length q, .int .i64 (Ro.check n es ls).2]) ∧ RowsZ w' W.heap.size (.slice o (Fa.orN (Ro.check n es ls).2 (Fa.all es ls)).length q) vs (Fa.orN (Ro.check n es ls).2 (Fa.all es ls)) ∧ Below W.heap.size W w' := by
  have := h.e16
  exact (fof_any n co cc es yo yc ls W he (by omega) hx).mono fun e w' h => h.form
theorem GS.left (h : GS w n ao ca es xo ls U) {co yo : Option Addr} {cc yc : Nat} {W : World} (he : EdgesAt W co es) (hx : RwsAt W yo ls) :
    Calls Try.prog 15 #[.agg #[.int .i64 n, .slice co es.length cc], .slice yo ls.length yc] W fun e w' => ∃ o q, e = .returned (.tuple #[.slice o (Fa.orN (Ro.check n es ls).2 (Fa.left es ls)).length q, .int .i64 (Ro.check n es ls).2]) ∧ OwnZ w' W.heap.size (.slice o (Fa.orN (Ro.check n es ls).2 (Fa.left es ls)).length q) (Fa.orN (Ro.check n es ls).2 (Fa.left es ls)) ∧ Below W.heap.size W w' := by
  have := h.e16
  exact (fleft_any n co cc es yo yc ls W he (by omega) hx).mono fun e w' h => h.form
theorem GS.genus (h : GS w n ao ca es xo ls U) {co yo : Option Addr} {cc yc : Nat} {W : World} (he : EdgesAt W co es) (hx : RwsAt W yo ls) :
    Calls Try.prog 18 #[.agg #[.int .i64 n, .slice co es.length cc], .slice yo ls.length yc] W (GenQ (Ro.check n es ls).2 (Fa.gz n.toNat es ls) W) := by
  have := h.e16
  exact fgenus_any n co cc es yo yc ls W he (by omega) hx
theorem GS.flat (h : GS w n ao ca es xo ls U) {co yo : Option Addr} {cc yc : Nat} {W : World} (he : EdgesAt W co es) (hx : RwsAt W yo ls) :
    Calls Try.prog 20 #[.agg #[.int .i64 n, .slice co es.length cc], .slice yo ls.length yc] W fun e w' => e = .returned (.bool (decide ((Ro.check n es ls).2 = 0 ∧ Fa.gz n.toNat es ls = 0))) ∧ Below W.heap.size W w' := by
  have := h.e16
  exact fflat_any n co cc es yo yc ls W he (by omega) hx
end

end Go.Proofs.Ytfkmldopfhdbkaa
