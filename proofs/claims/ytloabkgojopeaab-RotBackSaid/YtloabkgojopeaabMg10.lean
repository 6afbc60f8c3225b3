import Derived.Test.YtloabkgojopeaabMg04
import Derived.Test.YtloabkgojopeaabMg09
import Derived.Deep.Slices
import Derived.Test.YtloabkgojopeaabMg08
import Derived.Test.YtloabkgojopeaabMg01
/-
  Edges and graphs that came in.
-/
namespace Go.Proofs.Ytloabkgojopeaab
open Go.ChangeShapes Go.WideShapes Go.ChangeAt Go.RowKit

theorem bytesEdge : Try.prog.bytesOf 47 = 16 := by kernel_rfl
theorem cellsGraph : Try.prog.cellsOf 24 = 2 := by kernel_rfl
theorem cellsEdges : Try.prog.cellsOf 22 = 1 := by kernel_rfl

section
variable {H : Type} {enc : TypeId × Value → H} {W : World} {base : Nat} {sp : Nat → Bool} {held : Bool}

/-- Two numbers, read. -/
def TwoInts (cs : List Value) : Prop := ∃ a b : Int, cs = [.int .i64 a, .int .i64 b] ∧ In64 (a, b)

theorem two_of_ints {fuel : Nat} {cs : List Value} {x y : DataW H × List MemPlace} (hl : cs.length = 2) (h0 : DataW.trod enc Try.prog W base sp held fuel 3 ((cs.drop 0).take 1) = some x) (h1 : DataW.trod enc Try.prog W base sp held fuel 3 ((cs.drop 1).take 1) = some y) : TwoInts cs := by
  match cs, hl with
  | [u, v], _ =>
    obtain ⟨a, e0, _, w0⟩ := DataW.trod_int Try.underlying3 h0
    obtain ⟨b, e1, _, w1⟩ := DataW.trod_int Try.underlying3 h1
    simp at e0 e1
    subst e0
    subst e1
    exact ⟨a, b, rfl, bounds_i64 w0, bounds_i64 w1⟩

theorem two_arr {e t : TypeId} (he : Try.prog.underlying e = some (.array 2 t)) (ce : Try.prog.cellsOf e = 2) (ht : t = 3) {fuel : Nat} {cs : List Value} {x : DataW H × List MemPlace} (h : DataW.trod enc Try.prog W base sp held fuel e cs = some x) : TwoInts cs := by
  subst ht
  obtain ⟨xs, m, _, _, hl, hx, hf⟩ := DataW.trod_array he h
  rw [ce] at hl
  match xs, hx with
  | [y0, y1], _ =>
    have g0 := hf 0 (by omega)
    have g1 := hf 1 (by omega)
    simp only [cellsIntK] at g0 g1
    exact two_of_ints hl g0 g1

theorem two_struct {e : TypeId} {f0 f1 : Field} (he : Try.prog.underlying e = some (.struct #[f0, f1])) (ce : Try.prog.cellsOf e = 2) (o0 : f0.offset = 0) (o1 : f1.offset = 1) (t0 : f0.type = 3) (t1 : f1.type = 3)
    {fuel : Nat} {cs : List Value} {x : DataW H × List MemPlace} (h : DataW.trod enc Try.prog W base sp held fuel e cs = some x) : TwoInts cs := by
  obtain ⟨xs, m, _, _, hl, hx, hf⟩ := DataW.trod_struct he h
  rw [ce] at hl
  match xs, hx with
  | [y0, y1], _ =>
    have g0 := hf 0 f0 rfl
    have g1 := hf 1 f1 rfl
    simp only [o0, o1, t0, t1, cellsIntK] at g0 g1
    exact two_of_ints hl g0 g1

theorem two_edge {fuel : Nat} {cs : List Value} {x : DataW H × List MemPlace} (h : DataW.trod enc Try.prog W base sp held fuel 47 cs = some x) : TwoInts cs := two_struct Try.underlying47 cellsEdge rfl rfl rfl rfl h

/-- A number and a list, read. -/
theorem num_list {e : TypeId} {f0 f1 : Field} (he : Try.prog.underlying e = some (.struct #[f0, f1])) (o0 : f0.offset = 0) (o1 : f1.offset = 1) (t0 : f0.type = 3) (t1 : f1.type = 22) (c1 : Try.prog.cellsOf 22 = 1)
    {fuel : Nat} {u v : Value} {x : DataW H × List MemPlace} (h : DataW.trod enc Try.prog W base sp held fuel e [u, v] = some x) :
    ∃ (m : Nat) (y0 y1 : DataW H × List MemPlace), DataW.trod enc Try.prog W base sp held m 3 [u] = some y0 ∧ DataW.trod enc Try.prog W base sp held m 22 [v] = some y1 ∧ x.1 = .agg [y0.1, y1.1] := by
  obtain ⟨xs, m, _, hxx, hl, hx, hf⟩ := DataW.trod_struct he h
  match xs, hx with
  | [y0, y1], _ =>
    have g0 := hf 0 f0 rfl
    have g1 := hf 1 f1 rfl
    simp only [o0, o1, t0, t1, cellsIntK, c1] at g0 g1
    exact ⟨m, y0, y1, by simpa using g0, by simpa using g1, by rw [hxx]; rfl⟩

/-- What is known of a list of pairs that came in. -/
structure PairsIn (w : World) (ao : Option Addr) (len cap : Nat) (qs : List (Int × Int)) : Prop where
  hlen : qs.length = len
  hat : EdgesAt w ao qs
  hnil : ao = none → qs = [] ∧ cap = 0
  hwf : ∀ (j : Nat) (p : Int × Int), qs[j]? = some p → In64 p
  hfit : len ≤ cap

theorem pairs_in {t e : TypeId} {fuel : Nat} {a : Option Addr} {len cap : Nat} {x : DataW H × List MemPlace} (ht : Try.prog.underlying t = some (.slice e)) (ce : Try.prog.cellsOf e = 2)
    (hel : ∀ (n : Nat) (cs : List Value) (y : DataW H × List MemPlace), DataW.trod enc Try.prog W base (fun _ => true) held n e cs = some y → TwoInts cs) (h : DataW.trod enc Try.prog W base (fun _ => true) held fuel t [.slice a len cap] = some x) :
    ∃ qs, PairsIn W a len cap qs ∧ ((x.1 = .nil ∧ qs = []) ∨ ∃ es rest, x.1 = .slice es rest ∧ len ≤ es.length) := by
  rcases Deep.open_slice ht h with ⟨hcs, hx⟩ | ⟨ad, l, c, m, n, D, Pl, hcs, _, hl, hm, hmm, rfl, hcell⟩
  · simp at hcs
    obtain ⟨rfl, rfl, rfl⟩ := hcs
    subst hx
    exact ⟨[], ⟨rfl, EdgesAt.nil _ _, fun _ => ⟨rfl, rfl⟩, fun j p hj => by simp at hj, Nat.le_refl _⟩, .inl ⟨rfl, rfl⟩⟩
  · simp at hcs
    obtain ⟨rfl, rfl, rfl⟩ := hcs
    have hmc : m = cap := by simpa using hmm
    have each : ∀ i, i < m → ∃ q : Int × Int, W.cell? (ad.add (i * 2)) = some (.int .i64 q.1) ∧ W.cell? (ad.add (i * 2 + 1)) = some (.int .i64 q.2) ∧ In64 q := fun i hi => by
      obtain ⟨cs', h1, h2⟩ := hcell i hi
      rw [ce] at h1
      obtain ⟨_, hlen, hc⟩ := World.cells?_some h1
      obtain ⟨u, v, rfl, hw⟩ := hel n cs' _ h2
      have e0 := hc 0 (by omega)
      have e1 := hc 1 (by omega)
      rw [Deep.add_add] at e0 e1
      exact ⟨(u, v), by simpa using e0, by simpa using e1, hw⟩
    obtain ⟨q, hq⟩ := Deep.choose_lt each
    refine ⟨(List.range len).map q, ⟨by simp, fun j p hj => ?_, fun h => (by cases h), fun j p hj => ?_, hl⟩, .inr ⟨_, _, rfl, by simp⟩⟩
    · have hi : j < len := by
        have := (List.getElem?_eq_some_iff.1 hj).1
        simpa using this
      simp [hi] at hj
      subst hj
      obtain ⟨c0, c1, _⟩ := hq j (by omega)
      obtain ⟨b, o, s⟩ := ad
      have hsp : s = none := by
        obtain ⟨c00, _⟩ := hq 0 (by omega)
        simpa [Addr.add] using World.cell?_spot c00
      subst hsp
      have ea : ∀ k, ((⟨b, o, none⟩ : Addr).add k) = ⟨b, o + k, none⟩ := fun k => by
        by_cases h0 : k = 0 <;> simp [Addr.add, h0]
      rw [ea] at c0 c1
      exact ⟨b, o, rfl, c0, by rw [← Nat.add_assoc] at c1; exact c1⟩
    · have hi : j < len := by
        have := (List.getElem?_eq_some_iff.1 hj).1
        simpa using this
      simp [hi] at hj
      subst hj
      exact (hq j (by omega)).2.2

end

set_option maxRecDepth 100000 in
/-- An edge that came in. -/
theorem edge_of_trod {H : Type} {enc : TypeId × Value → H} {W : World} {base : Nat} {v : Value} {d : DataW H} {p : List MemPlace} (hval : Value.okWide Try.prog W .any base 47 v)
    (h : DataW.Trod enc Try.prog W 0 (fun _ => true) true 47 v d p) : ∃ q : Int × Int, v = edgeVal q ∧ In64 q := by
  obtain ⟨cs, rfl, hcs⟩ := okWide_struct Try.underlying47 hval
  rw [cellsEdge] at hcs
  obtain ⟨fuel, hf⟩ := h
  obtain ⟨cl⟩ := cs
  match cl, hcs with
  | [u, v], _ =>
    obtain ⟨a, b, e, hw⟩ := two_edge hf
    simp [Value.cells] at e
    obtain ⟨rfl, rfl⟩ := e
    exact ⟨(a, b), rfl, hw⟩

set_option maxRecDepth 100000 in
/-- A graph that came in. -/
theorem graph_of_trod {H : Type} {enc : TypeId × Value → H} {W : World} {base : Nat} {v : Value} {d : DataW H} {p : List MemPlace} {ts : List TypeId} {ds : List (DataW H)} {j : Nat} (hval : Value.okWide Try.prog W .any base 24 v)
    (h : DataW.Trod enc Try.prog W 0 (fun _ => true) true 24 v d p) (hsz : (DataW.weightsEach Try.prog ts ds).all (· ≤ reachBytes) = true) (hts : ts[j]? = some 24) (hds : ds[j]? = some d) :
    ∃ (n : Int) (a : Option Addr) (cap : Nat) (qs : List (Int × Int)), v = .agg #[.int .i64 n, .slice a qs.length cap] ∧ (-9223372036854775808 ≤ n ∧ n ≤ 9223372036854775807) ∧ PairsIn W a qs.length cap qs ∧ qs.length * 16 ≤ 140737488351232 := by
  obtain ⟨cs, rfl, hcs⟩ := okWide_struct Try.underlying24 hval
  rw [cellsGraph] at hcs
  obtain ⟨fuel, hf⟩ := h
  obtain ⟨cl⟩ := cs
  match cl, hcs with
  | [u, v], _ =>
    obtain ⟨m, y0, y1, g0, g1, hxx⟩ := num_list Try.underlying24 rfl rfl rfl rfl cellsEdges hf
    obtain ⟨n, e0, hy0, w0⟩ := DataW.trod_int Try.underlying3 g0
    simp at e0
    subst e0
    have hsl : ∃ a len cap, v = .slice a len cap := by
      rcases Deep.open_slice Try.underlying22 g1 with ⟨hc, _⟩ | ⟨ad, l, c, _, _, _, _, hc, _⟩
      · simp at hc; exact ⟨_, _, _, hc⟩
      · simp at hc; exact ⟨_, _, _, hc⟩
    obtain ⟨a, len, cap, rfl⟩ := hsl
    obtain ⟨qs, hq, hd⟩ := pairs_in Try.underlying22 cellsEdge (fun n cs y hy => two_edge hy) g1
    have hql := hq.hlen
    subst hql
    refine ⟨n, a, cap, qs, rfl, bounds_i64 w0, hq, ?_⟩
    rcases hd with ⟨_, rfl⟩ | ⟨es, rest, hd, hle⟩
    · simp
    · have hde : d = .agg [y0.1, .slice es rest] := by
        rw [hd] at hxx
        exact hxx
      subst hde
      have hw := List.all_eq_true.1 hsz _ (DataW.weights_mem_each hts hds ((es.length + rest.length) * Try.prog.bytesOf 47) (by simp [DataW.weights, DataW.weightsEach, Try.underlying24, Try.underlying22]))
      rw [bytesEdge] at hw
      have hw2 : (es.length + rest.length) * 16 ≤ reachBytes := of_decide_eq_true hw
      simp only [reachBytes] at hw2
      omega

end Go.Proofs.Ytloabkgojopeaab

/-
  What a law carries from call to call: the graph that came in, its box, lists that came in.
-/
namespace Go.Proofs.Ytloabkgojopeaab
open Go.RowKit Go.Sort

/-- What Check, Next and Around answer, by letters. -/
def CkQ (v : Nat) (c : Int) (w : World) (e : Ending) (w' : World) : Prop := e = .returned (.tuple #[.int .i64 (v : Int), .int .i64 c]) ∧ Below w.heap.size w w'
def NextQ (c : Int) (L : List Int) (M : Nat) (w : World) (e : Ending) (w' : World) : Prop :=
  Below w.heap.size w w' ∧ ((c ≠ 0 ∧ e = .returned (.tuple #[.slice none 0 0, .int .i64 c])) ∨ (c = 0 ∧ ∃ g, e = .returned (.tuple #[.slice (some ⟨g, 0, none⟩) M M, .int .i64 0]) ∧ w.heap.size ≤ g ∧ IntsBlk w' g L))
def AroundQ (c : Int) (R : List (List Int)) (w : World) (e : Ending) (w' : World) : Prop :=
  Below w.heap.size w w' ∧ ((c ≠ 0 ∧ e = .returned (.tuple #[.slice none 0 0, .int .i64 c])) ∨ (c = 0 ∧ ∃ v vs, e = .returned (.tuple #[v, .int .i64 0]) ∧ RowsZ w' w.heap.size v vs R))

/-- The graph that came in, its box, and lists that came in. -/
structure GR (w w0 : World) (n : Int) (ao : Option Addr) (ca : Nat) (es : List (Int × Int)) (xo : Option Addr) (ls : List (List Int)) : Prop where
  box : w.heap[w0.heap.size]? = some (.cells #[.int .i64 n, .slice ao es.length ca] 24 (0, 0))
  edges : EdgesAt w ao es
  rows : RwsAt w xo ls
  low : Below w0.heap.size w0 w

theorem GR.later {w w' w0 : World} {n : Int} {ao : Option Addr} {ca : Nat} {es : List (Int × Int)} {xo : Option Addr} {ls : List (List Int)} (h : GR w w0 n ao ca es xo ls) (hb : Below w.heap.size w w') : GR w' w0 n ao ca es xo ls :=
  ⟨(hb.block _ (lt_of_block h.box)).trans h.box, h.edges.later hb, h.rows.later hb, h.low.trans (hb.mono h.low.size)⟩

theorem GR.start {w0 : World} {n : Int} {ao : Option Addr} {ca : Nat} {es : List (Int × Int)} {xo : Option Addr} {ls : List (List Int)} (he : EdgesAt w0 ao es) (hx : RwsAt w0 xo ls) : GR (w0.alloc (.cells #[.int .i64 n, .slice ao es.length ca] 24)) w0 n ao ca es xo ls := by
  have hb : Below w0.heap.size w0 (w0.alloc (.cells #[.int .i64 n, .slice ao es.length ca] 24)) := (Below.refl _ _).alloc (Nat.le_refl _) _
  exact ⟨heap_alloc_new w0 _, he.later hb, hx.later hb, hb⟩

theorem GR.cells {w w0 : World} {n : Int} {ao : Option Addr} {ca : Nat} {es : List (Int × Int)} {xo : Option Addr} {ls : List (List Int)} (h : GR w w0 n ao ca es xo ls) : w.cell? ⟨w0.heap.size, 0, none⟩ = some (.int .i64 n) ∧ w.cell? ⟨w0.heap.size, 1, none⟩ = some (.slice ao es.length ca) := by
  obtain ⟨g0, g1, -⟩ := pair_cells h.box
  exact ⟨g0, g1⟩

end Go.Proofs.Ytloabkgojopeaab

/-
  Rotations told by vertices, pure: the half-edge between two vertices; what From finds first.
-/
namespace Go.Proofs.Ytloabkgojopeaab
namespace Ro

/-- The half-edge below k from u to v, or none. -/
def half (es : List (Int × Int)) (u : Nat) (v : Int) : Nat → Option Nat
  | 0 => none
  | k + 1 => match half es u v k with
    | some h => some h
    | none => if Cs.fr es k = u ∧ (Cs.to es k : Int) = v then some k else none

theorem half_some {es : List (Int × Int)} {u : Nat} {v : Int} : ∀ {k h : Nat}, half es u v k = some h → h < k ∧ Cs.fr es h = u ∧ (Cs.to es h : Int) = v
  | k + 1, h, hh => by
    unfold half at hh
    split at hh
    · rename_i h' e
      cases hh
      have := half_some e
      exact ⟨by omega, this.2⟩
    · split at hh
      · rename_i hc
        cases hh
        exact ⟨by omega, hc⟩
      · cases hh

theorem half_none {es : List (Int × Int)} {u : Nat} {v : Int} : ∀ {k : Nat}, half es u v k = none → ∀ h, h < k → ¬ (Cs.fr es h = u ∧ (Cs.to es h : Int) = v)
  | 0, _, h, hk => by omega
  | k + 1, hh, h, hk => by
    unfold half at hh
    split at hh
    · cases hh
    · rename_i e
      split at hh
      · cases hh
      · rename_i hc
        by_cases e2 : h = k
        · subst e2; exact hc
        · exact half_none e h (by omega)

/-- Two half-edges of a valid graph with the same ends are one. -/
theorem half_one {n : Nat} {es : List (Int × Int)} (hv : Si.Val n es) {i j : Nat} (hi : i < 2 * es.length) (hj : j < 2 * es.length) (h1 : Cs.fr es i = Cs.fr es j) (h2 : Cs.to es i = Cs.to es j) : i = j := by
  obtain ⟨e, he, hoe, hpe⟩ := half_edge hv hi
  obtain ⟨f, hf, hof, hpf⟩ := half_edge hv hj
  have hinj : ∀ {a b : Nat} {p q : Int × Int}, es[a]? = some p → es[b]? = some q → p = q → a = b := fun {a b p q} ha hb hpq => by
    subst hpq
    exact hv.place ha hb
  unfold Si.ok at hoe hof
  obtain ⟨e1, e2⟩ := e
  obtain ⟨f1, f2⟩ := f
  dsimp only at hpe hpf hoe hof
  rcases hpe with ⟨m1, a1, a2⟩ | ⟨m1, a1, a2⟩ <;> rcases hpf with ⟨m2, b1, b2⟩ | ⟨m2, b1, b2⟩
  · have := hinj he hf (by rw [show e1 = f1 by omega, show e2 = f2 by omega])
    omega
  · omega
  · omega
  · have := hinj he hf (by rw [show e1 = f1 by omega, show e2 = f2 by omega])
    omega

/-- The half-edge from v to x, or -1. -/
def hl (es : List (Int × Int)) (v : Nat) (x : Int) : Int := match half es v x (2 * es.length) with
  | some h => (h : Int)
  | none => -1

/-- The lists of half-edges that are told by vertices, from vertex k on. -/
def hls (es : List (Int × Int)) : Nat → List (List Int) → List (List Int)
  | _, [] => []
  | k, l :: ls => l.map (hl es k) :: hls es (k + 1) ls

theorem hls_len (es : List (Int × Int)) : ∀ (k : Nat) (ls : List (List Int)), (hls es k ls).length = ls.length
  | _, [] => rfl
  | k, l :: ls => by simp [hls, hls_len es (k + 1) ls]

theorem hls_at {es : List (Int × Int)} : ∀ {k : Nat} {ls : List (List Int)} {v : Nat} {l : List Int}, ls[v]? = some l → (hls es k ls)[v]? = some (l.map (hl es (k + v)))
  | k, a :: ls, 0, l, h => by
    simp at h
    subst h
    simp [hls]
  | k, a :: ls, v + 1, l, h => by
    have := hls_at (es := es) (k := k + 1) (ls := ls) (v := v) (l := l) (by simpa using h)
    rw [show k + 1 + v = k + (v + 1) by omega] at this
    simpa [hls] using this

theorem hl_lv {es : List (Int × Int)} {v : Nat} {x : Int} {h : Nat} (hh : half es v x (2 * es.length) = some h) : hl es v x = (h : Int) ∧ lv es (h : Int) v = true ∧ h < 2 * es.length := by
  obtain ⟨h1, h2, h3⟩ := half_some hh
  refine ⟨by unfold hl; rw [hh], lv_of h1 h2, h1⟩
theorem hl_no {es : List (Int × Int)} {v : Nat} {x : Int} (hh : half es v x (2 * es.length) = none) : hl es v x = -1 ∧ lv es (-1) v = false := by
  refine ⟨by unfold hl; rw [hh], by simp [lv]⟩

/-- The half-edge to x, if it leaves v and leads to x. -/
theorem hl_of {n : Nat} {es : List (Int × Int)} (hv : Si.Val n es) {v h : Nat} {x : Int} (hh : h < 2 * es.length) (h1 : Cs.fr es h = v) (h2 : (Cs.to es h : Int) = x) : half es v x (2 * es.length) = some h := by
  cases e : half es v x (2 * es.length) with
  | none => exact absurd ⟨h1, h2⟩ (half_none e h hh)
  | some k =>
    obtain ⟨k1, k2, k3⟩ := half_some e
    rw [half_one hv k1 hh (by omega) (by omega)]

theorem hl_inj {es : List (Int × Int)} {v : Nat} {x y : Int} {h : Nat} (hh : half es v x (2 * es.length) = some h) (e : hl es v y = (h : Int)) : x = y := by
  cases ey : half es v y (2 * es.length) with
  | none => rw [(hl_no ey).1] at e; omega
  | some k =>
    rw [(hl_lv ey).1] at e
    have e2 : k = h := by omega
    subst e2
    have h1 := (half_some hh).2.2
    have h2 := (half_some ey).2.2
    omega

theorem hl_mem {es : List (Int × Int)} {v : Nat} {x : Int} {h : Nat} {pre : List Int} (hh : half es v x (2 * es.length) = some h) : (h : Int) ∈ pre.map (hl es v) ↔ x ∈ pre := by
  constructor
  · intro hm
    obtain ⟨y, hy, e⟩ := List.mem_map.1 hm
    rw [hl_inj hh e]
    exact hy
  · intro hm
    rw [← (hl_lv hh).1]
    exact List.mem_map.2 ⟨x, hm, rfl⟩

end Ro
end Go.Proofs.Ytloabkgojopeaab

/-
  The finder, pure: chains of half-edges that leave a vertex; what was told last to lead where.
-/
namespace Go.Proofs.Ytloabkgojopeaab
namespace Ro

/-- The last half-edge below k that leaves v, or -1. -/
def lo (es : List (Int × Int)) (v : Nat) : Nat → Int
  | 0 => -1
  | k + 1 => if Cs.fr es k = v then (k : Int) else lo es v k

theorem lo_spec (es : List (Int × Int)) (v : Nat) : ∀ k, (lo es v k = -1 ∧ ∀ h, h < k → Cs.fr es h ≠ v) ∨ ∃ h : Nat, lo es v k = (h : Int) ∧ h < k ∧ Cs.fr es h = v ∧ ∀ j, h < j → j < k → Cs.fr es j ≠ v
  | 0 => .inl ⟨rfl, fun h hh => by omega⟩
  | k + 1 => by
    unfold lo
    by_cases hk : Cs.fr es k = v
    · rw [if_pos hk]
      exact .inr ⟨k, rfl, by omega, hk, fun j h1 h2 => by omega⟩
    · rw [if_neg hk]
      rcases lo_spec es v k with ⟨h1, h2⟩ | ⟨h, h1, h2, h3, h4⟩
      · refine .inl ⟨h1, fun h hh => ?_⟩
        by_cases e : h = k
        · subst e; exact hk
        · exact h2 h (by omega)
      · refine .inr ⟨h, h1, by omega, h3, fun j hj1 hj2 => ?_⟩
        by_cases e : j = k
        · subst e; exact hk
        · exact h4 j hj1 (by omega)

/-- The lists of the finder once k half-edges have been gone by. -/
structure Fi (n : Nat) (es : List (Int × Int)) (F An : List Int) (k : Nat) : Prop where
  lf : F.length = n
  la : An.length = 2 * es.length
  first : ∀ v, v < n → F[v]? = some (lo es v k)
  another : ∀ h, h < k → An[h]? = some (lo es (Cs.fr es h) h)

theorem Fi.start (n : Nat) (es : List (Int × Int)) : Fi n es (List.replicate n (-1)) (List.replicate (2 * es.length) 0) 0 :=
  ⟨by simp, by simp, fun v hv => by rw [List.getElem?_replicate, if_pos hv]; rfl, fun h hh => by omega⟩

theorem Fi.step {n : Nat} {es : List (Int × Int)} (hv : Si.Val n es) {F An : List Int} {k : Nat} (h : Fi n es F An k) (hk : k < 2 * es.length) : Fi n es (F.set (Cs.fr es k) (k : Int)) (An.set k (lo es (Cs.fr es k) k)) (k + 1) := by
  have hf := (Cs.half_lt hv hk).1
  refine ⟨by rw [List.length_set]; exact h.lf, by rw [List.length_set]; exact h.la, fun v hvn => ?_, fun j hj => ?_⟩
  · rw [List.getElem?_set]
    unfold lo
    by_cases e : Cs.fr es k = v
    · rw [if_pos e, if_pos (by rw [h.lf]; exact hf), if_pos e]
    · rw [if_neg e, if_neg e]
      exact h.first v hvn
  · rw [List.getElem?_set]
    by_cases e : k = j
    · subst e
      rw [if_pos rfl, if_pos (by rw [h.la]; exact hk)]
    · rw [if_neg e]
      exact h.another j (by omega)

/-- What leads where, once v's half-edges from k on have been told (those of the vertices below v are of no matter). -/
structure Ld (n : Nat) (es : List (Int × Int)) (v k : Nat) (D : List Int) : Prop where
  len : D.length = n
  each : ∀ x, x < n → D[x]? = some (-1) ∨ ∃ h : Nat, D[x]? = some (h : Int) ∧ h < 2 * es.length ∧ Cs.fr es h ≤ v ∧ Cs.to es h = x
  told : ∀ h, k ≤ h → h < 2 * es.length → Cs.fr es h = v → D[Cs.to es h]? = some (h : Int)

theorem Ld.start (n : Nat) (es : List (Int × Int)) : Ld n es 0 (2 * es.length) (List.replicate n (-1)) :=
  ⟨by simp, fun x hx => .inl (by rw [List.getElem?_replicate, if_pos hx]), fun h h1 h2 => by omega⟩

theorem Ld.next {n : Nat} {es : List (Int × Int)} {v k : Nat} {D : List Int} (h : Ld n es v k D) : Ld n es (v + 1) (2 * es.length) D :=
  ⟨h.len, fun x hx => by
    rcases h.each x hx with h1 | ⟨j, h1, h2, h3, h4⟩
    · exact .inl h1
    · exact .inr ⟨j, h1, h2, by omega, h4⟩, fun h h1 h2 => by omega⟩

theorem Ld.put {n : Nat} {es : List (Int × Int)} (hv : Si.Val n es) {v k h : Nat} {D : List Int} (hd : Ld n es v k D) (hk : k ≤ 2 * es.length) (hh : h < k) (hf : Cs.fr es h = v) (hno : ∀ j, h < j → j < k → Cs.fr es j ≠ v) : Ld n es v h (D.set (Cs.to es h) (h : Int)) := by
  have ht := (Cs.half_lt hv (show h < 2 * es.length by omega)).2
  refine ⟨by rw [List.length_set]; exact hd.len, fun x hx => ?_, fun j h1 h2 h3 => ?_⟩
  · rw [List.getElem?_set]
    by_cases e : Cs.to es h = x
    · rw [if_pos e, if_pos (by rw [hd.len]; exact ht)]
      exact .inr ⟨h, rfl, by omega, by omega, e⟩
    · rw [if_neg e]
      exact hd.each x hx
  · rw [List.getElem?_set]
    by_cases e : h = j
    · subst e
      rw [if_pos rfl, if_pos (by rw [hd.len]; exact ht)]
    · have hjk : k ≤ j := by
        rcases Nat.lt_or_ge j k with h4 | h4
        · exact absurd h3 (hno j (by omega) h4)
        · exact h4
      have hne : Cs.to es h ≠ Cs.to es j := fun e2 => e (half_one hv (by omega) h2 (by omega) e2)
      rw [if_neg hne]
      exact hd.told j hjk h2 h3

theorem Ld.done {n : Nat} {es : List (Int × Int)} {v k : Nat} {D : List Int} (hd : Ld n es v k D) (hno : ∀ h, h < k → Cs.fr es h ≠ v) : Ld n es v 0 D :=
  ⟨hd.len, hd.each, fun h h1 h2 h3 => by
    rcases Nat.lt_or_ge h k with h4 | h4
    · exact absurd h3 (hno h h4)
    · exact hd.told h h4 h2 h3⟩

/-- What to answers. -/
def toF (n : Nat) (D : List Int) (x : Int) : Int := if 0 ≤ x ∧ x < n then D.getD x.toNat 0 else -1

/-- What to answers leaves v just if there is a half-edge to x, and then it is that one. -/
theorem Ld.to {n : Nat} {es : List (Int × Int)} (hv : Si.Val n es) {v : Nat} {D : List Int} (hd : Ld n es v 0 D) (x : Int) :
    (lv es (toF n D x) v = true ∧ toF n D x = hl es v x ∧ ∃ h : Nat, half es v x (2 * es.length) = some h ∧ toF n D x = (h : Int)) ∨ (lv es (toF n D x) v = false ∧ lv es (hl es v x) v = false) := by
  cases e : half es v x (2 * es.length) with
  | some h =>
    left
    obtain ⟨h1, h2, h3⟩ := half_some e
    have ht := (Cs.half_lt hv h1).2
    have hD := hd.told h (Nat.zero_le _) h1 h2
    have hx : toF n D x = (h : Int) := by
      unfold toF
      rw [if_pos (by omega), show x.toNat = Cs.to es h by omega, List.getD_eq_getElem?_getD, hD]
      rfl
    obtain ⟨e1, e2, -⟩ := hl_lv e
    rw [hx]
    exact ⟨e2, e1.symm, h, rfl, rfl⟩
  | none =>
    right
    obtain ⟨e1, e2⟩ := hl_no e
    refine ⟨?_, by rw [e1]; exact e2⟩
    unfold toF
    by_cases hx : 0 ≤ x ∧ x < n
    · rw [if_pos hx]
      obtain ⟨y, rfl⟩ : ∃ y : Nat, x = (y : Int) := ⟨x.toNat, by omega⟩
      rw [Int.toNat_natCast, List.getD_eq_getElem?_getD]
      rcases hd.each y (by omega) with h1 | ⟨h, h1, h2, -, h5⟩
      · rw [h1]
        exact e2
      · rw [h1]
        show lv es (h : Int) v = false
        cases hlv : lv es (h : Int) v with
        | false => rfl
        | true =>
          obtain ⟨j, hj, hj2, hj3⟩ := lv_nat hlv
          have ej : j = h := by omega
          subst ej
          exact absurd ⟨hj3, by rw [h5]⟩ (half_none e j hj2)
    · rw [if_neg hx]
      exact e2

end Ro
end Go.Proofs.Ytloabkgojopeaab
