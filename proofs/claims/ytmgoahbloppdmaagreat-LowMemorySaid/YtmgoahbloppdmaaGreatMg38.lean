import Derived.Test.YtmgoahbloppdmaaGreatMg37
import Derived.Test.YtmgoahbloppdmaaGreatMg02
import Derived.Test.YtmgoahbloppdmaaGreatMg09
import Derived.Deep.Slices
import Derived.Test.YtmgoahbloppdmaaGreatMg10
/-
  The document's Of of layer 8, of every graph and forest.
-/
namespace Go.Proofs.YtmgoahbloppdmaaGreat
open Go.RowKit

set_option maxRecDepth 100000 in
set_option maxHeartbeats 16000000 in
theorem r8Of_any (n : Int) (ao : Option Addr) (ca : Nat) (es : List (Int × Int)) (f : For) (s : Df.St) (w : World) (he : EdgesAt w ao es) (hl : es.length ≤ 4611686018427387904) (hF : LstF w f s) :
    Calls Tryz.prog 7 #[.agg #[.int .i64 n, .slice ao es.length ca], f.val s] w (LowPost8 n es s w) := by
  by_cases hvf : IsVF n es s
  · obtain ⟨m, rfl, hv, hVF⟩ := hvf
    exact r8ofs_any w he hv hF hVF
  · obtain ⟨a1, a2, a3, a4, c1, c2, c3, c4⟩ := f
    obtain ⟨W, hW⟩ : ∃ W, W = ((w.alloc (.cells #[.int .i64 n, .slice ao es.length ca] 24)).alloc (.cells #[.slice a1 s.par.length c1, .slice a2 s.hei.length c2, .slice a3 s.ord.length c3, .slice a4 s.ori.length c4] 27)).alloc (.cells #[.slice none 0 0, .slice none 0 0, .slice none 0 0, .slice none 0 0] 31) := ⟨_, rfl⟩
    have hB0 : Below w.heap.size w W := by rw [hW]; exact (((Below.refl _ _).alloc (Nat.le_refl _) _).alloc (by simp) _).alloc (by simp; omega) _
    have g1 : W.heap[w.heap.size]? = some (.cells #[.int .i64 n, .slice ao es.length ca] 24 (0, 0)) := by
      rw [hW, Below.heap_alloc _ _ _ (by simp; omega), Below.heap_alloc _ _ _ (by simp)]
      exact heap_alloc_new w _
    have g2 : W.heap[w.heap.size + 1]? = some (.cells #[.slice a1 s.par.length c1, .slice a2 s.hei.length c2, .slice a3 s.ord.length c3, .slice a4 s.ori.length c4] 27 (0, 0)) := by
      rw [hW, Below.heap_alloc _ _ _ (by simp)]
      exact alloc_at (by simp)
    have g3 : W.heap[w.heap.size + 2]? = some (.cells #[.slice none 0 0, .slice none 0 0, .slice none 0 0, .slice none 0 0] 31 (0, 0)) := by
      rw [hW]
      exact alloc_at (by simp)
    have lt1 := lt_of_block g1
    have lt2 := lt_of_block g2
    have lt3 := lt_of_block g3
    have HBX : Hid (∀ V, Below W.heap.size W V → (V.cell? ⟨w.heap.size, 0, none⟩ = some (.int .i64 n) ∧ V.cell? ⟨w.heap.size, 1, none⟩ = some (.slice ao es.length ca) ∧ V.cell? ⟨w.heap.size + 1, 0, none⟩ = some (.slice a1 s.par.length c1) ∧ V.cell? ⟨w.heap.size + 1, 1, none⟩ = some (.slice a2 s.hei.length c2) ∧ V.cell? ⟨w.heap.size + 1, 2, none⟩ = some (.slice a3 s.ord.length c3) ∧ V.cell? ⟨w.heap.size + 1, 3, none⟩ = some (.slice a4 s.ori.length c4)) ∧ V.heap[w.heap.size + 2]? = some (.cells #[.slice none 0 0, .slice none 0 0, .slice none 0 0, .slice none 0 0] 31 (0, 0)) ∧ EdgesAt V ao es ∧ LstF V ⟨a1, a2, a3, a4, c1, c2, c3, c4⟩ s) := fun V hV => by
      obtain ⟨x0, x1, -⟩ := pair_cells ((hV.block w.heap.size lt1).trans g1)
      obtain ⟨q0, q1, q2, q3, -⟩ := four_cells ((hV.block (w.heap.size + 1) lt2).trans g2)
      exact ⟨⟨x0, x1, q0, q1, q2, q3⟩, (hV.block _ lt3).trans g3, (he.later hB0).later hV, (hF.later hB0).later hV⟩
    have HEND : Hid (∀ V, Below W.heap.size W V → (∃ h0 : V.heap[w.heap.size + 2]? = some (.cells #[.slice none 0 0, .slice none 0 0, .slice none 0 0, .slice none 0 0] 31 (0, 0)), True) ∧ Below w.heap.size w (put4 V (w.heap.size + 2) (.slice none 0 0) (.slice none 0 0) (.slice none 0 0) (.slice none 0 0))) := fun V hV => ⟨⟨(HBX.out V hV).2.1, trivial⟩, below_put4 (hB0.trans (hV.mono hB0.size)) (by omega) _ _ _ _⟩
    have hrv := rvalid_any n ao ca es W (he.later hB0) hl
    unfold graphVal at hrv
    have HW := Nu.hid hW
    have HB0 := Nu.hid hB0
    obtain ⟨⟨x0, x1, k0, k1, k2, k3⟩, -⟩ := HBX.out W (Below.refl _ _)
    rw [hW] at x0 x1 k0 k1 k2 k3
    unfold For.val
    dsimp only
    cases hval : Si.valid n es with
    | false =>
      rw [hval] at hrv
      have HRV := Nu.hid hrv
      have HIS : Hid (LowIs n es s [] [] [] [] 1) := .inl ⟨hval, rfl, rfl, rfl, rfl, rfl⟩
      clear he hF hB0 g1 g2 g3 hW hrv hval hvf
      go_enter Tryz.func7, Tryz.ntmps7
      go_wp2_with (go_at_call 15; rw [← HW.out]; refine HRV.out.mono ?_; rintro r w1 ⟨rfl, hb1⟩; refine Hid.out ?_)
      refine Nu.hid ?_
      obtain ⟨⟨hR, -⟩, hbz⟩ := HEND.out w1 hb1
      obtain ⟨s0, s1, s2, s3, sf⟩ := four_cells hR
      obtain ⟨r0, r1, r2, r3, -⟩ := four_cells (put4_heap hR (.slice none 0 0) (.slice none 0 0) (.slice none 0 0) (.slice none 0 0))
      have R0 := Nu.hid r0
      have R1 := Nu.hid r1
      have R2 := Nu.hid r2
      have R3 := Nu.hid r3
      have HBZ := Nu.hid hbz
      unfold put4 at R0 R1 R2 R3 HBZ
      clear hb1 hR hbz r0 r1 r2 r3
      go_wp2
      refine bodyPost_ret (v := .tuple #[.agg #[.slice none 0 0, .slice none 0 0, .slice none 0 0, .slice none 0 0], .int .i64 1]) (by simp [results, Tryz.results7, go_sem, R0.out, R1.out, R2.out, R3.out]) rfl ?_
      exact ⟨_, _, _, _, [], [], [], [], [], 1, rfl, HIS.out, OwnZ.nil _ _, OwnZ.nil _ _, OwnZ.nil _ _, RowsZ.nil _ _, HBZ.out⟩
    | true =>
      rw [hval] at hrv
      have HRV := Nu.hid hrv
      have HDV : Hid (∀ V, Below W.heap.size W V → Calls Tryz.prog 16 #[.agg #[.int .i64 n, .slice ao es.length ca], .agg #[.slice a1 s.par.length c1, .slice a2 s.hei.length c2, .slice a3 s.ord.length c3, .slice a4 s.ori.length c4]] V fun e w' => e = .returned (.bool false) ∧ Below V.heap.size V w') := fun V hV => by
        have := rdvalid_any n ao ca es ⟨a1, a2, a3, a4, c1, c2, c3, c4⟩ s V (HBX.out V hV).2.2.1 hl (HBX.out V hV).2.2.2
        unfold graphVal For.val at this
        exact BoolPost.no this hvf
      have HIS : Hid (LowIs n es s [] [] [] [] 80) := .inr (.inl ⟨hval, hvf, rfl, rfl, rfl, rfl, rfl⟩)
      clear he hF hB0 g1 g2 g3 hW hrv hval hvf
      go_enter Tryz.func7, Tryz.ntmps7
      go_wp2_with (go_at_call 15; rw [← HW.out]; refine HRV.out.mono ?_; rintro r w1 ⟨rfl, hb1⟩; have HB1 := Nu.hid hb1; obtain ⟨⟨y0, y1, y2, y3, y4, y5⟩, -⟩ := HBX.out w1 hb1; clear hb1; refine Hid.out ?_)
      refine Nu.hid ?_
      go_wp2_with (go_at_call 16; refine (HDV.out _ HB1.out).mono ?_; rintro r w2 ⟨rfl, hb2⟩; refine Hid.out ?_)
      refine Nu.hid ?_
      obtain ⟨⟨hR, -⟩, hbz⟩ := HEND.out w2 (HB1.out.trans (hb2.mono HB1.out.size))
      obtain ⟨s0, s1, s2, s3, sf⟩ := four_cells hR
      obtain ⟨r0, r1, r2, r3, -⟩ := four_cells (put4_heap hR (.slice none 0 0) (.slice none 0 0) (.slice none 0 0) (.slice none 0 0))
      have R0 := Nu.hid r0
      have R1 := Nu.hid r1
      have R2 := Nu.hid r2
      have R3 := Nu.hid r3
      have HBZ := Nu.hid hbz
      unfold put4 at R0 R1 R2 R3 HBZ
      clear hb2 hR hbz r0 r1 r2 r3
      go_wp2
      refine bodyPost_ret (v := .tuple #[.agg #[.slice none 0 0, .slice none 0 0, .slice none 0 0, .slice none 0 0], .int .i64 80]) (by simp [results, Tryz.results7, go_sem, R0.out, R1.out, R2.out, R3.out]) rfl ?_
      exact ⟨_, _, _, _, [], [], [], [], [], 80, rfl, HIS.out, OwnZ.nil _ _, OwnZ.nil _ _, OwnZ.nil _ _, RowsZ.nil _ _, HBZ.out⟩

end Go.Proofs.YtmgoahbloppdmaaGreat

/-
  Edges and graphs that came in.
-/
namespace Go.Proofs.YtmgoahbloppdmaaGreat
open Go.ChangeShapes Go.WideShapes Go.ChangeAt Go.RowKit

theorem bytesEdge : Tryz.prog.bytesOf 47 = 16 := by kernel_rfl
theorem cellsGraph : Tryz.prog.cellsOf 24 = 2 := by kernel_rfl
theorem cellsEdges : Tryz.prog.cellsOf 22 = 1 := by kernel_rfl

section
variable {H : Type} {enc : TypeId × Value → H} {W : World} {base : Nat} {sp : Nat → Bool} {held : Bool}

/-- Two numbers, read. -/
def TwoInts (cs : List Value) : Prop := ∃ a b : Int, cs = [.int .i64 a, .int .i64 b] ∧ In64 (a, b)

theorem two_of_ints {fuel : Nat} {cs : List Value} {x y : DataW H × List MemPlace} (hl : cs.length = 2) (h0 : DataW.trod enc Tryz.prog W base sp held fuel 3 ((cs.drop 0).take 1) = some x) (h1 : DataW.trod enc Tryz.prog W base sp held fuel 3 ((cs.drop 1).take 1) = some y) : TwoInts cs := by
  match cs, hl with
  | [u, v], _ =>
    obtain ⟨a, e0, _, w0⟩ := DataW.trod_int Tryz.underlying3 h0
    obtain ⟨b, e1, _, w1⟩ := DataW.trod_int Tryz.underlying3 h1
    simp at e0 e1
    subst e0
    subst e1
    exact ⟨a, b, rfl, bounds_i64 w0, bounds_i64 w1⟩

theorem two_arr {e t : TypeId} (he : Tryz.prog.underlying e = some (.array 2 t)) (ce : Tryz.prog.cellsOf e = 2) (ht : t = 3) {fuel : Nat} {cs : List Value} {x : DataW H × List MemPlace} (h : DataW.trod enc Tryz.prog W base sp held fuel e cs = some x) : TwoInts cs := by
  subst ht
  obtain ⟨xs, m, _, _, hl, hx, hf⟩ := DataW.trod_array he h
  rw [ce] at hl
  match xs, hx with
  | [y0, y1], _ =>
    have g0 := hf 0 (by omega)
    have g1 := hf 1 (by omega)
    simp only [cellsIntK] at g0 g1
    exact two_of_ints hl g0 g1

theorem two_struct {e : TypeId} {f0 f1 : Field} (he : Tryz.prog.underlying e = some (.struct #[f0, f1])) (ce : Tryz.prog.cellsOf e = 2) (o0 : f0.offset = 0) (o1 : f1.offset = 1) (t0 : f0.type = 3) (t1 : f1.type = 3)
    {fuel : Nat} {cs : List Value} {x : DataW H × List MemPlace} (h : DataW.trod enc Tryz.prog W base sp held fuel e cs = some x) : TwoInts cs := by
  obtain ⟨xs, m, _, _, hl, hx, hf⟩ := DataW.trod_struct he h
  rw [ce] at hl
  match xs, hx with
  | [y0, y1], _ =>
    have g0 := hf 0 f0 rfl
    have g1 := hf 1 f1 rfl
    simp only [o0, o1, t0, t1, cellsIntK] at g0 g1
    exact two_of_ints hl g0 g1

theorem two_edge {fuel : Nat} {cs : List Value} {x : DataW H × List MemPlace} (h : DataW.trod enc Tryz.prog W base sp held fuel 47 cs = some x) : TwoInts cs := two_struct Tryz.underlying47 cellsEdge rfl rfl rfl rfl h

/-- A number and a list, read. -/
theorem num_list {e : TypeId} {f0 f1 : Field} (he : Tryz.prog.underlying e = some (.struct #[f0, f1])) (o0 : f0.offset = 0) (o1 : f1.offset = 1) (t0 : f0.type = 3) (t1 : f1.type = 22) (c1 : Tryz.prog.cellsOf 22 = 1)
    {fuel : Nat} {u v : Value} {x : DataW H × List MemPlace} (h : DataW.trod enc Tryz.prog W base sp held fuel e [u, v] = some x) :
    ∃ (m : Nat) (y0 y1 : DataW H × List MemPlace), DataW.trod enc Tryz.prog W base sp held m 3 [u] = some y0 ∧ DataW.trod enc Tryz.prog W base sp held m 22 [v] = some y1 ∧ x.1 = .agg [y0.1, y1.1] := by
  obtain ⟨xs, m, _, hxx, hl, hx, hf⟩ := DataW.trod_struct he h
  match xs, hx with
  | [y0, y1], _ =>
    have g0 := hf 0 f0 rfl
    have g1 := hf 1 f1 rfl
    simp only [o0, o1, t0, t1, cellsIntK, c1] at g0 g1
    exact ⟨m, y0, y1, by simpa using g0, by simpa using g1, by rw [hxx]; rfl⟩

/-- What is known of a list of pairs that came in. -/
structure PairsIn (w : World) (ao : Option Addr) (len cap : Nat) (qs : List (Int × Int)) : Prop where
  hlen : qs.length = len
  hat : EdgesAt w ao qs
  hnil : ao = none → qs = [] ∧ cap = 0
  hwf : ∀ (j : Nat) (p : Int × Int), qs[j]? = some p → In64 p
  hfit : len ≤ cap

theorem pairs_in {t e : TypeId} {fuel : Nat} {a : Option Addr} {len cap : Nat} {x : DataW H × List MemPlace} (ht : Tryz.prog.underlying t = some (.slice e)) (ce : Tryz.prog.cellsOf e = 2)
    (hel : ∀ (n : Nat) (cs : List Value) (y : DataW H × List MemPlace), DataW.trod enc Tryz.prog W base (fun _ => true) held n e cs = some y → TwoInts cs) (h : DataW.trod enc Tryz.prog W base (fun _ => true) held fuel t [.slice a len cap] = some x) :
    ∃ qs, PairsIn W a len cap qs ∧ ((x.1 = .nil ∧ qs = []) ∨ ∃ es rest, x.1 = .slice es rest ∧ len ≤ es.length) := by
  rcases Deep.open_slice ht h with ⟨hcs, hx⟩ | ⟨ad, l, c, m, n, D, Pl, hcs, _, hl, hm, hmm, rfl, hcell⟩
  · simp at hcs
    obtain ⟨rfl, rfl, rfl⟩ := hcs
    subst hx
    exact ⟨[], ⟨rfl, EdgesAt.nil _ _, fun _ => ⟨rfl, rfl⟩, fun j p hj => by simp at hj, Nat.le_refl _⟩, .inl ⟨rfl, rfl⟩⟩
  · simp at hcs
    obtain ⟨rfl, rfl, rfl⟩ := hcs
    have hmc : m = cap := by simpa using hmm
    have each : ∀ i, i < m → ∃ q : Int × Int, W.cell? (ad.add (i * 2)) = some (.int .i64 q.1) ∧ W.cell? (ad.add (i * 2 + 1)) = some (.int .i64 q.2) ∧ In64 q := fun i hi => by
      obtain ⟨cs', h1, h2⟩ := hcell i hi
      rw [ce] at h1
      obtain ⟨_, hlen, hc⟩ := World.cells?_some h1
      obtain ⟨u, v, rfl, hw⟩ := hel n cs' _ h2
      have e0 := hc 0 (by omega)
      have e1 := hc 1 (by omega)
      rw [Deep.add_add] at e0 e1
      exact ⟨(u, v), by simpa using e0, by simpa using e1, hw⟩
    obtain ⟨q, hq⟩ := Deep.choose_lt each
    refine ⟨(List.range len).map q, ⟨by simp, fun j p hj => ?_, fun h => (by cases h), fun j p hj => ?_, hl⟩, .inr ⟨_, _, rfl, by simp⟩⟩
    · have hi : j < len := by
        have := (List.getElem?_eq_some_iff.1 hj).1
        simpa using this
      simp [hi] at hj
      subst hj
      obtain ⟨c0, c1, _⟩ := hq j (by omega)
      obtain ⟨b, o, s⟩ := ad
      have hsp : s = none := by
        obtain ⟨c00, _⟩ := hq 0 (by omega)
        simpa [Addr.add] using World.cell?_spot c00
      subst hsp
      have ea : ∀ k, ((⟨b, o, none⟩ : Addr).add k) = ⟨b, o + k, none⟩ := fun k => by
        by_cases h0 : k = 0 <;> simp [Addr.add, h0]
      rw [ea] at c0 c1
      exact ⟨b, o, rfl, c0, by rw [← Nat.add_assoc] at c1; exact c1⟩
    · have hi : j < len := by
        have := (List.getElem?_eq_some_iff.1 hj).1
        simpa using this
      simp [hi] at hj
      subst hj
      exact (hq j (by omega)).2.2

end

set_option maxRecDepth 100000 in
/-- An edge that came in. -/
theorem edge_of_trod {H : Type} {enc : TypeId × Value → H} {W : World} {base : Nat} {v : Value} {d : DataW H} {p : List MemPlace} (hval : Value.okWide Tryz.prog W .any base 47 v)
    (h : DataW.Trod enc Tryz.prog W 0 (fun _ => true) true 47 v d p) : ∃ q : Int × Int, v = edgeVal q ∧ In64 q := by
  obtain ⟨cs, rfl, hcs⟩ := okWide_struct Tryz.underlying47 hval
  rw [cellsEdge] at hcs
  obtain ⟨fuel, hf⟩ := h
  obtain ⟨cl⟩ := cs
  match cl, hcs with
  | [u, v], _ =>
    obtain ⟨a, b, e, hw⟩ := two_edge hf
    simp [Value.cells] at e
    obtain ⟨rfl, rfl⟩ := e
    exact ⟨(a, b), rfl, hw⟩

set_option maxRecDepth 100000 in
/-- A graph that came in. -/
theorem graph_of_trod {H : Type} {enc : TypeId × Value → H} {W : World} {base : Nat} {v : Value} {d : DataW H} {p : List MemPlace} {ts : List TypeId} {ds : List (DataW H)} {j : Nat} (hval : Value.okWide Tryz.prog W .any base 24 v)
    (h : DataW.Trod enc Tryz.prog W 0 (fun _ => true) true 24 v d p) (hsz : (DataW.weightsEach Tryz.prog ts ds).all (· ≤ reachBytes) = true) (hts : ts[j]? = some 24) (hds : ds[j]? = some d) :
    ∃ (n : Int) (a : Option Addr) (cap : Nat) (qs : List (Int × Int)), v = .agg #[.int .i64 n, .slice a qs.length cap] ∧ (-9223372036854775808 ≤ n ∧ n ≤ 9223372036854775807) ∧ PairsIn W a qs.length cap qs ∧ qs.length * 16 ≤ 140737488351232 := by
  obtain ⟨cs, rfl, hcs⟩ := okWide_struct Tryz.underlying24 hval
  rw [cellsGraph] at hcs
  obtain ⟨fuel, hf⟩ := h
  obtain ⟨cl⟩ := cs
  match cl, hcs with
  | [u, v], _ =>
    obtain ⟨m, y0, y1, g0, g1, hxx⟩ := num_list Tryz.underlying24 rfl rfl rfl rfl cellsEdges hf
    obtain ⟨n, e0, hy0, w0⟩ := DataW.trod_int Tryz.underlying3 g0
    simp at e0
    subst e0
    have hsl : ∃ a len cap, v = .slice a len cap := by
      rcases Deep.open_slice Tryz.underlying22 g1 with ⟨hc, _⟩ | ⟨ad, l, c, _, _, _, _, hc, _⟩
      · simp at hc; exact ⟨_, _, _, hc⟩
      · simp at hc; exact ⟨_, _, _, hc⟩
    obtain ⟨a, len, cap, rfl⟩ := hsl
    obtain ⟨qs, hq, hd⟩ := pairs_in Tryz.underlying22 cellsEdge (fun n cs y hy => two_edge hy) g1
    have hql := hq.hlen
    subst hql
    refine ⟨n, a, cap, qs, rfl, bounds_i64 w0, hq, ?_⟩
    rcases hd with ⟨_, rfl⟩ | ⟨es, rest, hd, hle⟩
    · simp
    · have hde : d = .agg [y0.1, .slice es rest] := by
        rw [hd] at hxx
        exact hxx
      subst hde
      have hw := List.all_eq_true.1 hsz _ (DataW.weights_mem_each hts hds ((es.length + rest.length) * Tryz.prog.bytesOf 47) (by simp [DataW.weights, DataW.weightsEach, Tryz.underlying24, Tryz.underlying22]))
      rw [bytesEdge] at hw
      have hw2 : (es.length + rest.length) * 16 ≤ reachBytes := of_decide_eq_true hw
      simp only [reachBytes] at hw2
      omega

end Go.Proofs.YtmgoahbloppdmaaGreat

/-
  Forests that came in.
-/
namespace Go.Proofs.YtmgoahbloppdmaaGreat
open Go.ChangeShapes Go.WideShapes Go.ChangeAt Go.RowKit

theorem cellsForest : Tryz.prog.cellsOf 27 = 4 := by kernel_rfl
theorem cellsInts : Tryz.prog.cellsOf 25 = 1 := by kernel_rfl

/-- The numbers are ints. -/
def In64L (l : List Int) : Prop := ∀ x ∈ l, -9223372036854775808 ≤ x ∧ x ≤ 9223372036854775807
/-- All four lists are. -/
def In64F (s : Df.St) : Prop := In64L s.par ∧ In64L s.hei ∧ In64L s.ord ∧ In64L s.ori

section
variable {H : Type} {enc : TypeId × Value → H} {W : World}

theorem ints_in {fuel : Nat} {v : Value} {y : DataW H × List MemPlace} (h : DataW.trod enc Tryz.prog W 0 (fun _ => true) true fuel 25 [v] = some y) :
    ∃ (a : Option Addr) (cap : Nat) (l : List Int), v = .slice a l.length cap ∧ Lst W a l.length cap l ∧ In64L l ∧ ((y.1 = .nil ∧ l = []) ∨ ∃ es rest, y.1 = .slice es rest ∧ l.length ≤ es.length) ∧ l.length ≤ cap := by
  rcases open_ints Tryz.underlying25 Tryz.underlying3 cellsInt h with ⟨hcs, hy⟩ | ⟨x, l, c, zs, hcs, _, hl, hm, hz, hx, hcell, hwz⟩
  · simp at hcs
    subst hcs
    exact ⟨none, 0, [], rfl, ⟨rfl, IntsAt.nil _ _, fun _ => ⟨rfl, rfl⟩⟩, fun x hx => by simp at hx, .inl ⟨by rw [hy], rfl⟩, Nat.le_refl _⟩
  · simp at hcs
    subst hcs
    have hz' : zs.length = c := by simpa using hz
    have hlen : (zs.take l).length = l := by simp; omega
    have hr : IsRow .i64 0 W (some x) l c zs := .inr ⟨x, rfl, hl, by omega, hz', hcell, hwz⟩
    refine ⟨some x, c, zs.take l, by rw [hlen], ?_, fun q hq => ?_, .inr ?_, by rw [hlen]; exact hl⟩
    · rw [hlen]
      refine ⟨hlen, fun j z hj => ?_, fun e => by cases e⟩
      rw [List.getElem?_take] at hj
      by_cases hjl : j < l
      · rw [if_pos hjl] at hj
        have hlt : j < zs.length := by omega
        have hci := hcell j hlt
        rw [List.getD_eq_getElem?_getD, hj] at hci
        obtain ⟨b, o, sp⟩ := x
        have hsp : sp = none := by simpa [Addr.add] using World.cell?_spot (hcell 0 (by omega))
        subst hsp
        refine ⟨b, o, rfl, ?_⟩
        have e : ((⟨b, o, none⟩ : Addr).add j) = ⟨b, o + j, none⟩ := by
          by_cases h0 : j = 0 <;> simp [Addr.add, h0]
        rw [e] at hci
        exact hci
      · rw [if_neg hjl] at hj
        cases hj
    · exact wf_i64 (hwz q (List.mem_of_mem_take hq))
    · refine ⟨_, _, by rw [hx], ?_⟩
      simp [lits]

/-- Four lists, read. -/
theorem four_lists {e : TypeId} {f0 f1 f2 f3 : Field} (he : Tryz.prog.underlying e = some (.struct #[f0, f1, f2, f3])) (o0 : f0.offset = 0) (o1 : f1.offset = 1) (o2 : f2.offset = 2) (o3 : f3.offset = 3) (t0 : f0.type = 25) (t1 : f1.type = 25) (t2 : f2.type = 25) (t3 : f3.type = 25)
    {fuel : Nat} {u1 u2 u3 u4 : Value} {x : DataW H × List MemPlace} (h : DataW.trod enc Tryz.prog W 0 (fun _ => true) true fuel e [u1, u2, u3, u4] = some x) :
    ∃ (m : Nat) (y1 y2 y3 y4 : DataW H × List MemPlace), DataW.trod enc Tryz.prog W 0 (fun _ => true) true m 25 [u1] = some y1 ∧ DataW.trod enc Tryz.prog W 0 (fun _ => true) true m 25 [u2] = some y2 ∧ DataW.trod enc Tryz.prog W 0 (fun _ => true) true m 25 [u3] = some y3 ∧ DataW.trod enc Tryz.prog W 0 (fun _ => true) true m 25 [u4] = some y4 ∧ x.1 = .agg [y1.1, y2.1, y3.1, y4.1] := by
  obtain ⟨xs, m, _, hxx, hl, hx, hf⟩ := DataW.trod_struct he h
  match xs, hx with
  | [y1, y2, y3, y4], _ =>
    have g0 := hf 0 f0 rfl
    have g1 := hf 1 f1 rfl
    have g2 := hf 2 f2 rfl
    have g3 := hf 3 f3 rfl
    simp only [o0, o1, o2, o3, t0, t1, t2, t3, cellsInts] at g0 g1 g2 g3
    exact ⟨m, y1, y2, y3, y4, by simpa using g0, by simpa using g1, by simpa using g2, by simpa using g3, by rw [hxx]; rfl⟩

set_option maxRecDepth 100000 in
/-- A forest that came in, and its room. -/
theorem forest_room {base : Nat} {v : Value} {d : DataW H} {p : List MemPlace} {ts : List TypeId} {ds : List (DataW H)} {j : Nat} (hval : Value.okWide Tryz.prog W .any base 27 v)
    (h : DataW.Trod enc Tryz.prog W 0 (fun _ => true) true 27 v d p) (hsz : (DataW.weightsEach Tryz.prog ts ds).all (· ≤ reachBytes) = true) (hts : ts[j]? = some 27) (hds : ds[j]? = some d) :
    ∃ (f : For) (s : Df.St), v = f.val s ∧ LstF W f s ∧ In64F s ∧ s.ord.length ≤ f.c3 := by
  obtain ⟨cs, rfl, hcs⟩ := okWide_struct Tryz.underlying27 hval
  rw [cellsForest] at hcs
  obtain ⟨fuel, hf⟩ := h
  obtain ⟨cl⟩ := cs
  match cl, hcs with
  | [u1, u2, u3, u4], _ =>
    obtain ⟨m, y1, y2, y3, y4, g1, g2, g3, g4, hde⟩ := four_lists Tryz.underlying27 rfl rfl rfl rfl rfl rfl rfl rfl hf
    dsimp only at hde
    obtain ⟨a1, c1, l1, rfl, k1, i1, w1, r1⟩ := ints_in g1
    obtain ⟨a2, c2, l2, rfl, k2, i2, w2, r2⟩ := ints_in g2
    obtain ⟨a3, c3, l3, rfl, k3, i3, w3, r3⟩ := ints_in g3
    obtain ⟨a4, c4, l4, rfl, k4, i4, w4, r4⟩ := ints_in g4
    have lim : ∀ (y : DataW H × List MemPlace) (l : List Int), y ∈ [y1, y2, y3, y4] → ((y.1 = .nil ∧ l = []) ∨ ∃ es rest, y.1 = .slice es rest ∧ l.length ≤ es.length) → l.length ≤ 17592186043904 := fun y l hy hw => by
      rcases hw with ⟨_, rfl⟩ | ⟨es, rest, e, hle⟩
      · simp
      · have hw := List.all_eq_true.1 hsz _ (DataW.weights_mem_each hts hds ((es.length + rest.length) * Tryz.prog.bytesOf 3) (by
          rw [hde]
          simp only [DataW.weights, Tryz.underlying27]
          simp only [List.mem_cons, List.not_mem_nil, or_false] at hy
          rcases hy with rfl | rfl | rfl | rfl <;> simp [DataW.weightsEach, DataW.weights, Tryz.underlying25, e]))
        rw [bytesInt] at hw
        have hw2 : (es.length + rest.length) * 8 ≤ reachBytes := of_decide_eq_true hw
        simp only [reachBytes] at hw2
        omega
    exact ⟨⟨a1, a2, a3, a4, c1, c2, c3, c4⟩, ⟨l1, l2, l3, l4⟩, rfl, ⟨k1, k2, k3, k4, lim y1 l1 (by simp) w1, lim y2 l2 (by simp) w2, lim y3 l3 (by simp) w3, lim y4 l4 (by simp) w4⟩, ⟨i1, i2, i3, i4⟩, r3⟩

set_option maxRecDepth 100000 in
/-- A forest that came in. -/
theorem forest_of_trod {base : Nat} {v : Value} {d : DataW H} {p : List MemPlace} {ts : List TypeId} {ds : List (DataW H)} {j : Nat} (hval : Value.okWide Tryz.prog W .any base 27 v)
    (h : DataW.Trod enc Tryz.prog W 0 (fun _ => true) true 27 v d p) (hsz : (DataW.weightsEach Tryz.prog ts ds).all (· ≤ reachBytes) = true) (hts : ts[j]? = some 27) (hds : ds[j]? = some d) :
    ∃ (f : For) (s : Df.St), v = f.val s ∧ LstF W f s ∧ In64F s := by
  obtain ⟨f, s, h1, h2, h3, _⟩ := forest_room hval h hsz hts hds
  exact ⟨f, s, h1, h2, h3⟩
end

end Go.Proofs.YtmgoahbloppdmaaGreat
