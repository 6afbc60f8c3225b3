import Derived.Test.YtalfpbalekbinaaGreatMg17
import Derived.Deep.Cut
/-
  enter: what is laid when a vertex is come to.
-/
namespace Go.Proofs.YtalfpbalekbinaaGreat
open Go.RowKit Go.Shelf

attribute [local go_sem] Oper.semAt_some

def BlE.v3 (x : Fx) (w : World) (S : List (Nat × Int)) (sa : Option Addr) (sc : Nat) (yv v' : Value) : Nat → Value
  | 0 => .pointer (some ⟨x.p, 0, none⟩)
  | 1 => .pointer (some ⟨x.p, 0, none⟩)
  | 2 => .pointer (some ⟨x.p, 0, none⟩)
  | 3 => .pointer (some ⟨x.p, 6, none⟩)
  | 4 => yv
  | 5 => .pointer (some ⟨x.p, 0, none⟩)
  | 6 => .pointer (some ⟨x.p, 0, none⟩)
  | 7 => .pointer (some ⟨x.p, 5, none⟩)
  | 8 => .slice sa S.length sc
  | 9 => .int .i64 (S.length : Int)
  | 10 => .slice (some ⟨w.heap.size + 1, 0, none⟩) 1 1
  | 11 => v'
  | 12 => .pointer (some ⟨x.p, 0, none⟩)
  | 13 => .pointer (some ⟨x.p, 6, none⟩)
  | _ => undef

def BlE.v4 (x : Fx) (w3 : World) (S : List (Nat × Int)) (sa : Option Addr) (sc g t v b2 o2 : Nat) (zv : Int) (v' : Value) : Nat → Value
  | 0 => .pointer (some ⟨x.p, 0, none⟩)
  | 1 => .pointer (some ⟨x.p, 0, none⟩)
  | 2 => .pointer (some ⟨x.p, 0, none⟩)
  | 3 => .pointer (some ⟨x.p, 5, none⟩)
  | 4 => .slice sa S.length sc
  | 5 => .int .i64 (g : Int)
  | 6 => .int .i64 (t : Int)
  | 7 => .pointer (some ⟨x.p, 0, none⟩)
  | 8 => .pointer (some ⟨x.p, 0, none⟩)
  | 9 => .pointer (some ⟨x.p, 1, none⟩)
  | 10 => .pointer (some ⟨x.p, 2, none⟩)
  | 11 => .slice (some ⟨b2, o2, none⟩) x.n x.f.c2
  | 12 => .int .i64 (v : Int)
  | 13 => .pointer (some ⟨b2, o2 + v, none⟩)
  | 14 => .int .i64 zv
  | 15 => .int .i64 (zv - 1)
  | 16 => .agg #[.int .i64 (t : Int), .int .i64 (zv - 1)]
  | 17 => .slice (some ⟨w3.heap.size, 0, none⟩) 1 1
  | 18 => v'
  | 19 => .pointer (some ⟨x.p, 0, none⟩)
  | 20 => .pointer (some ⟨x.p, 5, none⟩)
  | _ => undef

def EnterPost9 (x : Fx) (w0 : World) (j : Nat) (e : Ending) (w' : World) : Prop :=
  e = .returned (.tuple #[]) ∧ ∃ T S Y F, FinAt x w0 w' S Y F ∧ Bl.Fi x.es x.s (fun e => Bl.En x.s (j + 1) (Bl.ev x.es x.s e)) T S Y F ∧ Bl.Pos x.es x.s (j + 1) T

set_option maxRecDepth 100000 in
set_option maxHeartbeats 16000000 in
theorem enter_root (x : Fx) (w0 w : World) (j : Nat) (T0 : List Nat) (S : List (Nat × Int)) (Y : List Nat) (F : List (List Nat)) (h : FinAt x w0 w S Y F) (f : Bl.Fi x.es x.s (fun e => Bl.En x.s j (Bl.ev x.es x.s e)) (T0.take (Bl.dep x.s j)) S Y F) (hj : j < x.n) (hp : Df.at_ x.s.par (Bl.vtx x.s j) = -1) :
    Calls Tryz.prog 54 #[.pointer (some ⟨x.p, 0, none⟩), .int .i64 (Bl.vtx x.s j : Int)] w (EnterPost9 x w0 j) := by
  obtain ⟨sv, yv, D, G, h⟩ := h
  have hval := h.ok.val
  have hvf := h.ok.vf
  obtain ⟨ht0, hpos, hh0, hnone⟩ := Bl.Pos.root (T := T0) hval hvf hj hp
  rw [ht0] at f
  obtain ⟨v, hve⟩ : ∃ v, Bl.vtx x.s j = v := ⟨_, rfl⟩
  have hvn : v < x.n := by rw [← hve]; exact (Bl.vtx_eq hvf hj).2
  have hno : ∀ i, i < 2 * x.es.length → Cs.fr x.es i = v → ¬ Bl.bk x.es x.s i := fun i hi hf hb => by
    obtain ⟨b1, b2, b3, _⟩ := Bl.bk_back hvf hi hb
    exact hnone _ b1 (by rw [Bl.ev_back b2, b3, hf, hve])
  obtain ⟨b, o, ef, hc⟩ := h.ok.par hvn
  have c1 : w.cell? ⟨x.p, 1, none⟩ = some (.slice (some ⟨b, o, none⟩) x.n x.f.c1) := by have := (h.cells (i := 1) (u := .slice x.f.a1 x.n x.f.c1) rfl).1; rwa [ef] at this
  have d1 := hc w h.below v hvn
  rw [← hve, hp, hve] at d1
  rw [hve]
  have hpl := h.plt
  have hbl : b < w.heap.size := block_lt_of_cell d1
  have v0 : (0 : Int) ≤ (v : Int) := by omega
  have v1 : (v : Int) < (x.n : Int) := by omega
  have HEND : Hid (∀ e w', EnterPost x w0 (fun e => Bl.En x.s j (Bl.ev x.es x.s e)) [] Y F v e w' → EnterPost9 x w0 j e w') := fun e w' ⟨he, S', h1, h2⟩ => by
    refine ⟨he, [], S', Y, F, h1, h2.congr (fun e he => ?_), hpos⟩
    rw [Bl.laid_root hval hvf hj hp he]
    constructor
    · rintro (h3 | ⟨i, h3, h4, _⟩)
      · exact h3
      · obtain ⟨i', e1, h5, h6⟩ := (mem_outZ hvn).1 h3
        obtain rfl : i = i' := by omega
        exact absurd h4 (hno i h5 h6)
    · exact .inl
  have H1 : Hid (FinIn x w0 (w.alloc (.cells #[.pointer (some ⟨x.p, 0, none⟩)] 65)) sv yv D G S Y F) := h.later ((Below.refl _ _).alloc (Nat.le_refl _) _)
  have HB : Hid (x.B ≤ w.heap.size ∧ sv.ownBlock ≠ some w.heap.size) := ⟨h.size, fun e => by have := (h.stk.lt e).2; omega⟩
  have HF := Nu.hid f
  have HNO := Nu.hid hno
  clear h f hc ef hnone hpos hve hp hh0 ht0 hno
  refine Calls.mono ?_ HEND.out
  refine (callsIn_wide (n := 9)).1 ?_
  refine callsIn_of_wp_marks Tryz.func54 rfl trivial ?_ rfl
  simp only [Tryz.ntmps54, List.size_toArray, List.length_cons, List.length_nil, Nat.reduceAdd, Nat.reduceSub, Array.replicate_succ, Array.replicate_zero, List.push_toArray, List.append_toArray, List.nil_append, List.cons_append]
  refine wpIn_wide.2 ?_
  go_upto_if 16 with fail
  go_step
  go_step
  go_step
  go_step
  exact enter_tail x w0 _ sv yv D G S Y F w.heap.size v [] _ H1.out (Boxed.new w _ _) HB.out.1 HB.out.2 hvn HF.out (.inr HNO.out) (fun i hi hf hb => absurd hb (HNO.out i hi hf))

theorem OwnH.form {w : World} {B : Nat} {v : Value} {S : List (Nat × Int)} (h : OwnH w B v S) : ∃ ao c, v = .slice ao S.length c := by
  rcases h.2 with ⟨e, h0⟩ | ⟨g, cap, cur, e, _⟩
  · exact ⟨none, 0, by rw [e, h0]⟩
  · exact ⟨_, _, e⟩

set_option maxRecDepth 100000 in
set_option maxHeartbeats 16000000 in
theorem enter_child (x : Fx) (w0 w : World) (j : Nat) (T0 : List Nat) (S : List (Nat × Int)) (Y : List Nat) (F : List (List Nat)) (h : FinAt x w0 w S Y F) (f : Bl.Fi x.es x.s (fun e => Bl.En x.s j (Bl.ev x.es x.s e)) (T0.take (Bl.dep x.s j)) S Y F) (hj : j < x.n) (p : Bl.Pos x.es x.s j T0) (P : Bl.Path x.es x.s T0) (hp : Df.at_ x.s.par (Bl.vtx x.s j) ≠ -1) :
    Calls Tryz.prog 54 #[.pointer (some ⟨x.p, 0, none⟩), .int .i64 (Bl.vtx x.s j : Int)] w (EnterPost9 x w0 j) := by
  obtain ⟨sv, yv, D, G, h⟩ := h
  have hval := h.ok.val
  have hvf := h.ok.vf
  have hfew := hval.few
  obtain ⟨t, g, hg, hgt, t1, t2, t3, t4, t5, t6, t7, t8⟩ := Bl.Pos.step hval hvf hj p P hp
  have hXe : ∀ e, e < x.es.length → Df.Anc x.es x.s (Lo.go_ x.es x.s t) (Bl.ev x.es x.s e) → ¬ Bl.En x.s j (Bl.ev x.es x.s e) := fun e he ha => by
    rw [t3] at ha
    exact Bl.below_late hvf hj ha
  have f' := f.push hval hvf t1 t2 t5 t6 hXe
  have hSl := f.few
  have hYl : Y.length ≤ x.es.length := by rw [f.len]; exact f.fewT
  obtain ⟨zv, hzv⟩ : ∃ z, Df.at_ x.s.hei (Bl.vtx x.s j) = z := ⟨_, rfl⟩
  rw [hzv] at t4
  rw [t4] at f'
  have hroot := Df.rooted_of hval hvf.once hvf.hang hvf.side
  have hnv := Bl.en_not hvf hj
  obtain ⟨v, hve⟩ : ∃ v, Bl.vtx x.s j = v := ⟨_, rfl⟩
  have hvn : v < x.n := by rw [← hve]; exact (Bl.vtx_eq hvf hj).2
  have hzb := hroot v hvn
  have hvh := hval.hi
  rw [hve] at hnv hzv t3 hg
  rw [hzv] at hzb
  have HEND : Hid (∀ e w', EnterPost x w0 (fun e => Bl.En x.s j (Bl.ev x.es x.s e) ∨ e = t) (T0.take (Bl.dep x.s j) ++ [t]) (Y ++ [S.length]) F v e w' → EnterPost9 x w0 j e w') := fun e w' ⟨he, S', h1, h2⟩ => by
    refine ⟨he, _, S', _, F, h1, h2.congr (fun e he => ?_), t8⟩
    rw [Bl.laid_succ hvf hj t1 t2 (t3.trans hve.symm) he, hve]
    refine or_congr Iff.rfl ?_
    constructor
    · rintro ⟨i, h3, h4, rfl⟩
      obtain ⟨i', e1, h5, h6⟩ := (mem_outZ hvn).1 h3
      obtain rfl : i = i' := by omega
      obtain ⟨b1, b2, b3, _⟩ := Bl.bk_back hvf h5 h4
      exact ⟨b2, b3.trans h6⟩
    · rintro ⟨b2, b3⟩
      obtain ⟨h5, h6, h7, h8⟩ := Bl.back_bk hvf he b2
      exact ⟨_, (mem_outZ hvn).2 ⟨_, rfl, h5, h8.trans b3⟩, h7, h6.symm⟩
  have HX : Hid (∀ i, i < 2 * x.es.length → Cs.fr x.es i = v → Bl.bk x.es x.s i → ¬ (Bl.En x.s j (Bl.ev x.es x.s (i / 2)) ∨ i / 2 = t)) := fun i hi hf hb hh => by
    obtain ⟨b1, b2, b3, _⟩ := Bl.bk_back hvf hi hb
    rcases hh with hh | hh
    · rw [Bl.ev_back b2, b3, hf] at hh
      exact hnv hh
    · rw [hh, t2] at b2
      cases b2
  obtain ⟨b, o, ef, hc⟩ := h.ok.par hvn
  have c1 : w.cell? ⟨x.p, 1, none⟩ = some (.slice (some ⟨b, o, none⟩) x.n x.f.c1) := by have := (h.cells (i := 1) (u := .slice x.f.a1 x.n x.f.c1) rfl).1; rwa [ef] at this
  have d1 := hc w h.below v hvn
  rw [hg] at d1
  rw [hve]
  have hpl := h.plt
  have hbl : b < w.heap.size := block_lt_of_cell d1
  have v0 : (0 : Int) ≤ (v : Int) := by omega
  have v1 : (v : Int) < (x.n : Int) := by omega
  have g0 : ((g : Int) != -1) = true := by simp
  have htd : (g : Int).tdiv 2 = (t : Int) := by rw [Int.tdiv_eq_ediv_of_nonneg (by omega)]; omega
  have hwz : IntKind.i64.wrap (zv - 1) = zv - 1 := by
    simp [IntKind.wrap, IntKind.bits, IntKind.signed]
    omega
  obtain ⟨sa, sc, hsv⟩ := h.stk.form
  obtain ⟨b2, o2, ef2, hc2⟩ := h.ok.hei hvn
  -- the way is longer by one
  have h1 : FinIn x w0 ((w.alloc (.cells #[.pointer (some ⟨x.p, 0, none⟩)] 65)).drew) sv yv D G S Y F := h.later (((Below.refl _ _).alloc (Nat.le_refl _) _).drew)
  have hs1 : ((w.alloc (.cells #[.pointer (some ⟨x.p, 0, none⟩)] 65)).drew).heap.size = w.heap.size + 1 := by simp
  obtain ⟨v', w2, hrun, hw2, hat, ⟨g', c', hv'⟩, hfin3, hw3⟩ := h1.pushY S.length (by omega) 26
  obtain ⟨w3, hw3e⟩ : ∃ w3, w3 = w2.setCell ⟨x.p, 6, none⟩ v' := ⟨_, rfl⟩
  rw [← hw3e] at hfin3 hw3
  have hbf1 : Boxed (w.alloc (.cells #[.pointer (some ⟨x.p, 0, none⟩)] 65)) w.heap.size 65 (.pointer (some ⟨x.p, 0, none⟩)) := Boxed.new w _ _
  have hyBf : yv.ownBlock ≠ some w.heap.size := fun e => by have := (World.ownsRow.lt h.way _ e).2; omega
  have hsBf : sv.ownBlock ≠ some w.heap.size := fun e => by have := (h.stk.lt e).2; omega
  have hbf2 : w2.heap[w.heap.size]? = (w.alloc (.cells #[.pointer (some ⟨x.p, 0, none⟩)] 65)).heap[w.heap.size]? := hw2.block _ (by rw [hs1]; omega) hyBf
  have hbf3 : Boxed w3 w.heap.size 65 (.pointer (some ⟨x.p, 0, none⟩)) := (hw3.block _ (by rw [hs1]; omega) (fun e => e.elim (by omega) hyBf)).trans hbf1
  have hp2 : w2.heap[x.p]? = some (.cells (x.cells sv yv) 68 (0, 0)) := (hw2.block _ h1.plt (fun e => h1.yfar h1.ok.l4 e)).trans h1.blk
  have hV3 : ∀ V, (V = (w.alloc (.cells #[.pointer (some ⟨x.p, 0, none⟩)] 65)).drew ∨ V = (w.alloc (.cells #[.pointer (some ⟨x.p, 0, none⟩)] 65)).drew.alloc (.cells #[.int .i64 (S.length : Int)] 3) ∨ V = w2) → V.cell? ⟨w.heap.size, 0, none⟩ = some (.pointer (some ⟨x.p, 0, none⟩)) ∧ V.cell? ⟨x.p, 6, none⟩ = some yv ∧ V.cell? ⟨x.p, 5, none⟩ = some (.slice sa S.length sc) := fun V hV => by
    have e1 : V.heap[w.heap.size]? = (w.alloc (.cells #[.pointer (some ⟨x.p, 0, none⟩)] 65)).heap[w.heap.size]? := by
      rcases hV with rfl | rfl | rfl
      · rfl
      · exact Below.heap_alloc _ _ _ (by rw [hs1]; omega)
      · exact hbf2
    have e2 : V.heap[x.p]? = some (.cells (x.cells sv yv) 68 (0, 0)) := by
      rcases hV with rfl | rfl | rfl
      · exact h1.blk
      · exact (Below.heap_alloc _ _ _ h1.plt).trans h1.blk
      · exact hp2
    refine ⟨Boxed.cell (e1.trans hbf1), by simp [World.cell?, e2], ?_⟩
    rw [← hsv]
    simp [World.cell?, e2]
  have cW : w2.cell? ⟨x.p, 6, none⟩ = some yv ∧ w2.frozen? ⟨x.p, 6, none⟩ = false := by simp [World.cell?, World.frozen?, hp2]
  -- the stack too
  have h3 : FinIn x w0 w3.drew sv v' D G S (Y ++ [S.length]) F := hfin3.later ((Below.refl _ _).drew)
  obtain ⟨v4, w4, hrun4, hw4, hat4, ⟨g4, c4, hv4⟩, hfin5, hw5⟩ := h3.pushS t (zv - 1) (by omega) 66
  have hs3 : w.heap.size + 1 ≤ w3.heap.size := by have := hw3.size; rw [hs1] at this; exact this
  have hbf4 : w4.heap[w.heap.size]? = w3.heap[w.heap.size]? := hw4.block _ (by show _ < w3.heap.size; omega) hsBf
  have hp4 : w4.heap[x.p]? = some (.cells (x.cells sv v') 68 (0, 0)) := (hw4.block _ h3.plt (fun e => h3.sfar h3.ok.l4 e)).trans h3.blk
  have hbel4 : Below w0.heap.size w0 w4 := h3.below.trans (hw4.below h3.below.size (fun k hk => by have := (h3.stk.lt hk).1; have := h3.ok.l2; have := h3.ok.l4; omega))
  have hV4 : ∀ V, (V = w3.drew ∨ V = w3.drew.alloc (.cells #[.int .i64 (t : Int), .int .i64 (zv - 1)] 103) ∨ V = w4) → V.cell? ⟨w.heap.size, 0, none⟩ = some (.pointer (some ⟨x.p, 0, none⟩)) ∧ V.cell? ⟨x.p, 5, none⟩ = some (.slice sa S.length sc) ∧ V.cell? ⟨x.p, 2, none⟩ = some (.slice (some ⟨b2, o2, none⟩) x.n x.f.c2) ∧ V.cell? ⟨b2, o2 + v, none⟩ = some (.int .i64 zv) := fun V hV => by
    have e1 : V.heap[w.heap.size]? = w3.heap[w.heap.size]? := by
      rcases hV with rfl | rfl | rfl
      · rfl
      · exact Below.heap_alloc w3.drew _ _ (by show _ < w3.heap.size; omega)
      · exact hbf4
    have e2 : V.heap[x.p]? = some (.cells (x.cells sv v') 68 (0, 0)) := by
      rcases hV with rfl | rfl | rfl
      · exact h3.blk
      · exact (Below.heap_alloc _ _ _ h3.plt).trans h3.blk
      · exact hp4
    have e3 : Below w0.heap.size w0 V := by
      rcases hV with rfl | rfl | rfl
      · exact h3.below
      · exact h3.below.alloc h3.below.size _
      · exact hbel4
    refine ⟨Boxed.cell (e1.trans hbf3), ?_, ?_, ?_⟩
    · rw [← hsv]
      simp [World.cell?, e2]
    · rw [← ef2]
      simp [World.cell?, e2]
    · have := hc2 V e3 v hvn
      rwa [hzv] at this
  have cW4 : w4.cell? ⟨x.p, 5, none⟩ = some sv ∧ w4.frozen? ⟨x.p, 5, none⟩ = false := by simp [World.cell?, World.frozen?, hp4]
  have hbf5 : Boxed (w4.setCell ⟨x.p, 5, none⟩ v4) w.heap.size 65 (.pointer (some ⟨x.p, 0, none⟩)) := (hw5.block _ (by show _ < w3.heap.size; omega) (fun e => e.elim (by omega) hsBf)).trans hbf3
  have hv4Bf : v4.ownBlock ≠ some w.heap.size := fun e => by
    rcases hat4 with e1 | ⟨g, e1, e2⟩
    · rw [e1] at e; exact hsBf e
    · rw [e1] at e
      have := Option.some.inj e
      have : w3.drew.heap.size = w3.heap.size := rfl
      omega
  rw [hsv] at hrun4
  have HTAIL : Hid (FinIn x w0 (w4.setCell ⟨x.p, 5, none⟩ v4) v4 v' D G (S ++ [(t, zv - 1)]) (Y ++ [S.length]) F ∧ x.B ≤ w.heap.size) := ⟨hfin5, h.size⟩
  have HF := Nu.hid f'
  have HT3 : Hid ((∃ T1 t1, T0.take (Bl.dep x.s j) ++ [t] = T1 ++ [t1] ∧ Lo.go_ x.es x.s t1 = v) ∨ ∀ i, i < 2 * x.es.length → Cs.fr x.es i = v → ¬ Bl.bk x.es x.s i) := .inl ⟨_, t, rfl, t3⟩
  clear h f hc ef hp hve h1 hfin3 hw3 hw2 hat hbf2 hp2 h3 hw4 hat4 hw5 hbf4 hp4 hbel4 hfin5 f' hc2 ef2 hroot hnv hXe t3 t4 t5 t6 t7 t8 P p hzb hzv hvh hg
  refine Calls.mono ?_ HEND.out
  refine (callsIn_wide (n := 9)).1 ?_
  refine callsIn_of_wp_marks Tryz.func54 rfl trivial ?_ rfl
  simp only [Tryz.ntmps54, List.size_toArray, List.length_cons, List.length_nil, Nat.reduceAdd, Nat.reduceSub, Array.replicate_succ, Array.replicate_zero, List.push_toArray, List.append_toArray, List.nil_append, List.cons_append]
  refine wpIn_wide.2 ?_
  go_wp2_with fail
  refine wp_region_any (by kernel_rfl) ?_
  refine AnyOrd.anyP (BlE.v3 x w S sa sc yv v') (BlE.psC ((w.alloc (.cells #[.pointer (some ⟨x.p, 0, none⟩)] 65)).drew) ((w.alloc (.cells #[.pointer (some ⟨x.p, 0, none⟩)] 65)).drew.alloc (.cells #[.int .i64 (S.length : Int)] 3)) w2 (w2.setCell ⟨x.p, 6, none⟩ v') 10 11 14) 91 rfl (by kernel_rfl) rfl ?_ ?_
  · intro j o L V ev ho hLi hC haft hdc he1 he2 hec hef
    have hc : j = 0 ∨ j = 1 ∨ j = 2 ∨ j = 3 ∨ j = 4 ∨ j = 5 ∨ j = 6 ∨ j = 7 ∨ j = 8 ∨ j = 9 ∨ j = 10 ∨ j = 11 ∨ j = 12 ∨ j = 13 ∨ j = 14 := by
      have : j < 15 := (Array.getElem?_eq_some_iff.1 ho).1
      omega
    have h13 : L 14 = false := by
      cases h : L 14 with
      | false => rfl
      | true =>
        exfalso
        have hq : L j = true := by
          have hb : L 13 = true := hdc 14 _ rfl h ⟨13, .data⟩ (by simp) rfl
          rcases hc with rfl | rfl | rfl | rfl | rfl | rfl | rfl | rfl | rfl | rfl | rfl | rfl | rfl | rfl | rfl
          · exact hdc 14 _ rfl h ⟨0, .phase⟩ (by simp) rfl
          · exact hdc 14 _ rfl h ⟨1, .phase⟩ (by simp) rfl
          · exact hdc 14 _ rfl h ⟨2, .phase⟩ (by simp) rfl
          · exact hdc 14 _ rfl h ⟨3, .phase⟩ (by simp) rfl
          · exact hdc 14 _ rfl h ⟨4, .phase⟩ (by simp) rfl
          · exact hdc 14 _ rfl h ⟨5, .phase⟩ (by simp) rfl
          · exact hdc 14 _ rfl h ⟨6, .phase⟩ (by simp) rfl
          · exact hdc 14 _ rfl h ⟨7, .phase⟩ (by simp) rfl
          · exact hdc 14 _ rfl h ⟨8, .phase⟩ (by simp) rfl
          · exact hdc 14 _ rfl h ⟨9, .phase⟩ (by simp) rfl
          · exact hdc 14 _ rfl h ⟨10, .phase⟩ (by simp) rfl
          · exact hdc 14 _ rfl h ⟨11, .phase⟩ (by simp) rfl
          · exact hdc 13 _ rfl hb ⟨12, .data⟩ (by simp) rfl
          · exact hb
          · exact h
        rw [hLi] at hq
        cases hq
    have hcV : V = (w.alloc (.cells #[.pointer (some ⟨x.p, 0, none⟩)] 65)).drew ∨ V = (w.alloc (.cells #[.pointer (some ⟨x.p, 0, none⟩)] 65)).drew.alloc (.cells #[.int .i64 (S.length : Int)] 3) ∨ V = w2 := by
      unfold BlE.psC at hC
      rw [h13] at hC
      simp only [Bool.false_eq_true, if_false] at hC
      split at hC
      · exact .inr (.inr hC)
      · split at hC
        · exact .inr (.inl hC)
        · exact .inl hC
    have hd10 : L 11 = true → L 10 = true := fun h => hdc 11 _ rfl h ⟨10, .data⟩ (by simp) rfl

    obtain ⟨kb, c6, c5⟩ := hV3 V hcV
    rcases hc with rfl | rfl | rfl | rfl | rfl | rfl | rfl | rfl | rfl | rfl | rfl | rfl | rfl | rfl | rfl <;> obtain rfl := Option.some.inj ho
    · have e1 : ev (.tmp 2) = .pointer (some ⟨w.heap.size, 0, none⟩) := he2 2 (by kernel_rfl)
      exact AnyOrd.gives_value (w' := V) (by simp [execOp, go_sem, e1, kb]; rfl) ⟨rfl, hC.other (by decide) (by decide) (by decide)⟩
    · have e1 : ev (.tmp 2) = .pointer (some ⟨w.heap.size, 0, none⟩) := he2 2 (by kernel_rfl)
      exact AnyOrd.gives_value (w' := V) (by simp [execOp, go_sem, e1, kb]; rfl) ⟨rfl, hC.other (by decide) (by decide) (by decide)⟩
    · have e1 : ev (.tmp 18) = .pointer (some ⟨x.p, 0, none⟩) := he1 1 18 (by omega) rfl (by decide)
      exact AnyOrd.gives_value (w' := V) (by simp [execOp, go_sem, e1]; rfl) ⟨rfl, hC.other (by decide) (by decide) (by decide)⟩
    · have e1 : ev (.tmp 19) = .pointer (some ⟨x.p, 0, none⟩) := he1 2 19 (by omega) rfl (by decide)
      exact AnyOrd.gives_value (w' := V) (by simp [execOp, go_sem, e1]; rfl) ⟨rfl, hC.other (by decide) (by decide) (by decide)⟩
    · have e1 : ev (.tmp 20) = .pointer (some ⟨x.p, 6, none⟩) := he1 3 20 (by omega) rfl (by decide)
      exact AnyOrd.gives_value (v := yv) (w' := V) (by simp [execOp, go_sem, e1, c6]) ⟨rfl, hC.other (by decide) (by decide) (by decide)⟩
    · have e1 : ev (.tmp 2) = .pointer (some ⟨w.heap.size, 0, none⟩) := he2 2 (by kernel_rfl)
      exact AnyOrd.gives_value (w' := V) (by simp [execOp, go_sem, e1, kb]; rfl) ⟨rfl, hC.other (by decide) (by decide) (by decide)⟩
    · have e1 : ev (.tmp 22) = .pointer (some ⟨x.p, 0, none⟩) := he1 5 22 (by omega) rfl (by decide)
      exact AnyOrd.gives_value (w' := V) (by simp [execOp, go_sem, e1]; rfl) ⟨rfl, hC.other (by decide) (by decide) (by decide)⟩
    · have e1 : ev (.tmp 23) = .pointer (some ⟨x.p, 0, none⟩) := he1 6 23 (by omega) rfl (by decide)
      exact AnyOrd.gives_value (w' := V) (by simp [execOp, go_sem, e1]; rfl) ⟨rfl, hC.other (by decide) (by decide) (by decide)⟩
    · have e1 : ev (.tmp 24) = .pointer (some ⟨x.p, 5, none⟩) := he1 7 24 (by omega) rfl (by decide)
      exact AnyOrd.gives_value (v := .slice sa S.length sc) (w' := V) (by simp [execOp, go_sem, e1, c5]) ⟨rfl, hC.other (by decide) (by decide) (by decide)⟩
    · have e1 : ev (.tmp 25) = .slice sa S.length sc := he1 8 25 (by omega) rfl (by decide)
      exact AnyOrd.gives_value (v := .int .i64 (S.length : Int)) (w' := V) (by simp [execOp, go_sem, e1]) ⟨rfl, hC.other (by decide) (by decide) (by decide)⟩
    · have e1 : ev (.tmp 26) = .int .i64 (S.length : Int) := he1 9 26 (by omega) rfl (by decide)
      have h10 : L 11 = false := by
        cases h : L 11 with
        | false => rfl
        | true => rw [hd10 h] at hLi; cases hLi
      obtain rfl : V = (w.alloc (.cells #[.pointer (some ⟨x.p, 0, none⟩)] 65)).drew := by
        unfold BlE.psC at hC
        rw [h13, h10, hLi] at hC
        exact hC
      refine AnyOrd.gives_value (v := .slice (some ⟨w.heap.size + 1, 0, none⟩) 1 1) (w' := (w.alloc (.cells #[.pointer (some ⟨x.p, 0, none⟩)] 65)).drew.alloc (.cells #[.int .i64 (S.length : Int)] 3)) (by simp [execOp, go_sem, e1]) ⟨rfl, ?_⟩
      unfold BlE.psC
      rw [show AnyOrd.updB L 10 14 = false from h13, show AnyOrd.updB L 10 11 = false from h10, show AnyOrd.updB L 10 10 = true from rfl]
      rfl
    · have e1 : ev (.tmp 21) = yv := he1 4 21 (by omega) rfl (by decide)
      have e2 : ev (.tmp 27) = .slice (some ⟨w.heap.size + 1, 0, none⟩) 1 1 := he1 10 27 (by omega) rfl (by decide)
      have h9 : L 10 = true := haft ⟨10, .data⟩ (by simp) rfl
      obtain rfl : V = (w.alloc (.cells #[.pointer (some ⟨x.p, 0, none⟩)] 65)).drew.alloc (.cells #[.int .i64 (S.length : Int)] 3) := by
        unfold BlE.psC at hC
        rw [h13, hLi, h9] at hC
        exact hC
      have hr : ∀ o : Oper, o.op = .call { callee := .builtin .append, args := #[.tmp 21, .tmp 27], argTypes := #[26, 26] } → o.type = 26 → (execOp ev o).run Tryz.prog ((w.alloc (.cells #[.pointer (some ⟨x.p, 0, none⟩)] 65)).drew.alloc (.cells #[.int .i64 (S.length : Int)] 3)) = .ok (.value v') w2 := fun o ho ht => by
        unfold execOp
        simp only [ho, ht, resolve, invoke, builtin, Sem.run_bind, Sem.run_pure, Result.andThen_ok, List.map_toArray, List.map_cons, List.map_nil, e1, e2]
        have := hrun
        rw [show ((w.alloc (.cells #[.pointer (some ⟨x.p, 0, none⟩)] 65)).drew).heap.size = w.heap.size + 1 from hs1] at this
        rw [this]
        rfl
      refine AnyOrd.gives_value (v := v') (w' := w2) (hr _ rfl rfl) ⟨rfl, ?_⟩
      unfold BlE.psC
      rw [show AnyOrd.updB L 11 14 = false from h13, show AnyOrd.updB L 11 11 = true from rfl]
      rfl
    · have e1 : ev (.tmp 17) = .pointer (some ⟨x.p, 0, none⟩) := he1 0 17 (by omega) rfl (by decide)
      exact AnyOrd.gives_value (w' := V) (by simp [execOp, go_sem, e1]; rfl) ⟨rfl, hC.other (by decide) (by decide) (by decide)⟩
    · have e1 : ev (.tmp 29) = .pointer (some ⟨x.p, 0, none⟩) := he1 12 29 (by omega) rfl (by decide)
      exact AnyOrd.gives_value (w' := V) (by simp [execOp, go_sem, e1]; rfl) ⟨rfl, hC.other (by decide) (by decide) (by decide)⟩
    · have e1 : ev (.tmp 30) = .pointer (some ⟨x.p, 6, none⟩) := he1 13 30 (by omega) rfl (by decide)
      have e2 : ev (.tmp 28) = v' := he1 11 28 (by omega) rfl (by decide)
      have h10 : L 11 = true := haft ⟨11, .data⟩ (by simp) rfl
      obtain rfl : V = w2 := by
        unfold BlE.psC at hC
        rw [hLi, h10] at hC
        exact hC
      refine AnyOrd.gives_skip (w' := V.setCell ⟨x.p, 6, none⟩ v') (by rw [hv'] at e2 ⊢; simp [execOp, go_sem, e1, e2, cW.1, cW.2]) ⟨rfl, ?_⟩
      unfold BlE.psC
      rw [if_pos (show AnyOrd.updB L 14 14 = true from rfl)]

  · intro L V hall hC
    unfold BlE.psC at hC
    rw [if_pos (hall 14 (by decide))] at hC
    subst hC
    rw [← hw3e]
    generalize hfr : AnyOrd.canon _ _ _ _ = fr
    have hfr2 : fr = { tmps := #[.pointer (some ⟨x.p, 0, none⟩), .int .i64 (v : Int), .pointer (some ⟨w.heap.size, 0, none⟩), undef, .int .i64 (g : Int), undef, undef, .pointer (some ⟨x.p, 0, none⟩), .pointer (some ⟨x.p, 0, none⟩), .pointer (some ⟨x.p, 1, none⟩), .pointer (some ⟨x.p, 1, none⟩), .slice (some ⟨b, o, none⟩) x.n x.f.c1, .int .i64 (v : Int), .pointer (some ⟨b, o + v, none⟩), .int .i64 (g : Int), .int .i64 (g : Int), .bool true, .pointer (some ⟨x.p, 0, none⟩), .pointer (some ⟨x.p, 0, none⟩), .pointer (some ⟨x.p, 0, none⟩), .pointer (some ⟨x.p, 6, none⟩), yv, .pointer (some ⟨x.p, 0, none⟩), .pointer (some ⟨x.p, 0, none⟩), .pointer (some ⟨x.p, 5, none⟩), .slice sa S.length sc, .int .i64 (S.length : Int), .slice (some ⟨w.heap.size + 1, 0, none⟩) 1 1, v', .pointer (some ⟨x.p, 0, none⟩), .pointer (some ⟨x.p, 6, none⟩), undef, undef, undef, undef, undef, undef, undef, undef, undef, undef, undef, undef, undef, undef, undef, undef, undef, undef, undef, undef, undef, undef, undef, undef, undef, undef, undef, undef, undef, undef, undef, undef, undef, undef, undef, undef, undef, undef, undef, undef, undef, undef, undef, undef, undef, undef, undef, undef, undef, undef, undef, undef, undef, undef, undef, undef, undef, undef, undef, undef], defers := [] } := by rw [← hfr]; kernel_rfl
    subst hfr2
    clear hfr hV3 cW hrun hw3e hall hv'
    go_wp2_with fail
    refine wp_region_any (by kernel_rfl) ?_
    refine AnyOrd.anyP (BlE.v4 x w3 S sa sc g t v b2 o2 zv v4) (BlE.psC (w3.drew) (w3.drew.alloc (.cells #[.int .i64 (t : Int), .int .i64 (zv - 1)] 103)) w4 (w4.setCell ⟨x.p, 5, none⟩ v4) 17 18 21) 91 rfl (by kernel_rfl) rfl ?_ ?_
    · intro j o L V ev ho hLi hC haft hdc he1 he2 hec hef
      have hc : j = 0 ∨ j = 1 ∨ j = 2 ∨ j = 3 ∨ j = 4 ∨ j = 5 ∨ j = 6 ∨ j = 7 ∨ j = 8 ∨ j = 9 ∨ j = 10 ∨ j = 11 ∨ j = 12 ∨ j = 13 ∨ j = 14 ∨ j = 15 ∨ j = 16 ∨ j = 17 ∨ j = 18 ∨ j = 19 ∨ j = 20 ∨ j = 21 := by
        have : j < 22 := (Array.getElem?_eq_some_iff.1 ho).1
        omega
      have h13 : L 21 = false := by
        cases h : L 21 with
        | false => rfl
        | true =>
          exfalso
          have hq : L j = true := by
            have hb : L 20 = true := hdc 21 _ rfl h ⟨20, .data⟩ (by simp) rfl
            rcases hc with rfl | rfl | rfl | rfl | rfl | rfl | rfl | rfl | rfl | rfl | rfl | rfl | rfl | rfl | rfl | rfl | rfl | rfl | rfl | rfl | rfl | rfl
            · exact hdc 21 _ rfl h ⟨0, .phase⟩ (by simp) rfl
            · exact hdc 21 _ rfl h ⟨1, .phase⟩ (by simp) rfl
            · exact hdc 21 _ rfl h ⟨2, .phase⟩ (by simp) rfl
            · exact hdc 21 _ rfl h ⟨3, .phase⟩ (by simp) rfl
            · exact hdc 21 _ rfl h ⟨4, .phase⟩ (by simp) rfl
            · exact hdc 21 _ rfl h ⟨5, .phase⟩ (by simp) rfl
            · exact hdc 21 _ rfl h ⟨6, .phase⟩ (by simp) rfl
            · exact hdc 21 _ rfl h ⟨7, .phase⟩ (by simp) rfl
            · exact hdc 21 _ rfl h ⟨8, .phase⟩ (by simp) rfl
            · exact hdc 21 _ rfl h ⟨9, .phase⟩ (by simp) rfl
            · exact hdc 21 _ rfl h ⟨10, .phase⟩ (by simp) rfl
            · exact hdc 21 _ rfl h ⟨11, .phase⟩ (by simp) rfl
            · exact hdc 21 _ rfl h ⟨12, .phase⟩ (by simp) rfl
            · exact hdc 21 _ rfl h ⟨13, .phase⟩ (by simp) rfl
            · exact hdc 21 _ rfl h ⟨14, .phase⟩ (by simp) rfl
            · exact hdc 21 _ rfl h ⟨15, .phase⟩ (by simp) rfl
            · exact hdc 21 _ rfl h ⟨16, .phase⟩ (by simp) rfl
            · exact hdc 21 _ rfl h ⟨17, .phase⟩ (by simp) rfl
            · exact hdc 21 _ rfl h ⟨18, .phase⟩ (by simp) rfl
            · exact hdc 20 _ rfl hb ⟨19, .data⟩ (by simp) rfl
            · exact hb
            · exact h
          rw [hLi] at hq
          cases hq
      have hcV : V = w3.drew ∨ V = w3.drew.alloc (.cells #[.int .i64 (t : Int), .int .i64 (zv - 1)] 103) ∨ V = w4 := by
        unfold BlE.psC at hC
        rw [h13] at hC
        simp only [Bool.false_eq_true, if_false] at hC
        split at hC
        · exact .inr (.inr hC)
        · split at hC
          · exact .inr (.inl hC)
          · exact .inl hC
      have hd10 : L 18 = true → L 17 = true := fun h => hdc 18 _ rfl h ⟨17, .data⟩ (by simp) rfl

      obtain ⟨kb, c5, c2, d2⟩ := hV4 V hcV
      rcases hc with rfl | rfl | rfl | rfl | rfl | rfl | rfl | rfl | rfl | rfl | rfl | rfl | rfl | rfl | rfl | rfl | rfl | rfl | rfl | rfl | rfl | rfl <;> obtain rfl := Option.some.inj ho
      · have e1 : ev (.tmp 2) = .pointer (some ⟨w.heap.size, 0, none⟩) := he2 2 (by kernel_rfl)
        exact AnyOrd.gives_value (w' := V) (by simp [execOp, go_sem, e1, kb]; rfl) ⟨rfl, hC.other (by decide) (by decide) (by decide)⟩
      · have e1 : ev (.tmp 2) = .pointer (some ⟨w.heap.size, 0, none⟩) := he2 2 (by kernel_rfl)
        exact AnyOrd.gives_value (w' := V) (by simp [execOp, go_sem, e1, kb]; rfl) ⟨rfl, hC.other (by decide) (by decide) (by decide)⟩
      · have e1 : ev (.tmp 32) = .pointer (some ⟨x.p, 0, none⟩) := he1 1 32 (by omega) rfl (by decide)
        exact AnyOrd.gives_value (w' := V) (by simp [execOp, go_sem, e1]; rfl) ⟨rfl, hC.other (by decide) (by decide) (by decide)⟩
      · have e1 : ev (.tmp 33) = .pointer (some ⟨x.p, 0, none⟩) := he1 2 33 (by omega) rfl (by decide)
        exact AnyOrd.gives_value (w' := V) (by simp [execOp, go_sem, e1]; rfl) ⟨rfl, hC.other (by decide) (by decide) (by decide)⟩
      · have e1 : ev (.tmp 34) = .pointer (some ⟨x.p, 5, none⟩) := he1 3 34 (by omega) rfl (by decide)
        exact AnyOrd.gives_value (v := .slice sa S.length sc) (w' := V) (by simp [execOp, go_sem, e1, c5]) ⟨rfl, hC.other (by decide) (by decide) (by decide)⟩
      · have e1 : ev (.tmp 4) = .int .i64 (g : Int) := he2 4 (by kernel_rfl)
        exact AnyOrd.gives_value (w' := V) (by simp [execOp, go_sem, e1]; rfl) ⟨rfl, hC.other (by decide) (by decide) (by decide)⟩
      · have e1 : ev (.tmp 36) = .int .i64 (g : Int) := he1 5 36 (by omega) rfl (by decide)
        exact AnyOrd.gives_value (v := .int .i64 (t : Int)) (w' := V) (by simp [execOp, go_sem, e1, htd, hec]; exact wrap_few9 t (by omega)) ⟨rfl, hC.other (by decide) (by decide) (by decide)⟩
      · have e1 : ev (.tmp 2) = .pointer (some ⟨w.heap.size, 0, none⟩) := he2 2 (by kernel_rfl)
        exact AnyOrd.gives_value (w' := V) (by simp [execOp, go_sem, e1, kb]; rfl) ⟨rfl, hC.other (by decide) (by decide) (by decide)⟩
      · have e1 : ev (.tmp 38) = .pointer (some ⟨x.p, 0, none⟩) := he1 7 38 (by omega) rfl (by decide)
        exact AnyOrd.gives_value (w' := V) (by simp [execOp, go_sem, e1]; rfl) ⟨rfl, hC.other (by decide) (by decide) (by decide)⟩
      · have e1 : ev (.tmp 39) = .pointer (some ⟨x.p, 0, none⟩) := he1 8 39 (by omega) rfl (by decide)
        exact AnyOrd.gives_value (w' := V) (by simp [execOp, go_sem, e1]; rfl) ⟨rfl, hC.other (by decide) (by decide) (by decide)⟩
      · have e1 : ev (.tmp 40) = .pointer (some ⟨x.p, 1, none⟩) := he1 9 40 (by omega) rfl (by decide)
        exact AnyOrd.gives_value (w' := V) (by simp [execOp, go_sem, e1]; rfl) ⟨rfl, hC.other (by decide) (by decide) (by decide)⟩
      · have e1 : ev (.tmp 41) = .pointer (some ⟨x.p, 2, none⟩) := he1 10 41 (by omega) rfl (by decide)
        exact AnyOrd.gives_value (v := .slice (some ⟨b2, o2, none⟩) x.n x.f.c2) (w' := V) (by simp [execOp, go_sem, e1, c2]) ⟨rfl, hC.other (by decide) (by decide) (by decide)⟩
      · have e1 : ev (.tmp 1) = .int .i64 (v : Int) := he2 1 (by kernel_rfl)
        exact AnyOrd.gives_value (w' := V) (by simp [execOp, go_sem, e1]; rfl) ⟨rfl, hC.other (by decide) (by decide) (by decide)⟩
      · have e1 : ev (.tmp 42) = .slice (some ⟨b2, o2, none⟩) x.n x.f.c2 := he1 11 42 (by omega) rfl (by decide)
        have e2 : ev (.tmp 43) = .int .i64 (v : Int) := he1 12 43 (by omega) rfl (by decide)
        exact AnyOrd.gives_value (v := .pointer (some ⟨b2, o2 + v, none⟩)) (w' := V) (by simp [execOp, go_sem, e1, e2, v0, v1]) ⟨rfl, hC.other (by decide) (by decide) (by decide)⟩
      · have e1 : ev (.tmp 44) = .pointer (some ⟨b2, o2 + v, none⟩) := he1 13 44 (by omega) rfl (by decide)
        exact AnyOrd.gives_value (v := .int .i64 zv) (w' := V) (by simp [execOp, go_sem, e1, d2]) ⟨rfl, hC.other (by decide) (by decide) (by decide)⟩
      · have e1 : ev (.tmp 45) = .int .i64 zv := he1 14 45 (by omega) rfl (by decide)
        exact AnyOrd.gives_value (v := .int .i64 (zv - 1)) (w' := V) (by simp [execOp, go_sem, e1, hec]; exact hwz) ⟨rfl, hC.other (by decide) (by decide) (by decide)⟩
      · have e1 : ev (.tmp 37) = .int .i64 (t : Int) := he1 6 37 (by omega) rfl (by decide)
        have e2 : ev (.tmp 46) = .int .i64 (zv - 1) := he1 15 46 (by omega) rfl (by decide)
        exact AnyOrd.gives_value (v := .agg #[.int .i64 (t : Int), .int .i64 (zv - 1)]) (w' := V) (by simp [execOp, go_sem, e1, e2]) ⟨rfl, hC.other (by decide) (by decide) (by decide)⟩
      · have e1 : ev (.tmp 47) = .agg #[.int .i64 (t : Int), .int .i64 (zv - 1)] := he1 16 47 (by omega) rfl (by decide)
        have h10 : L 18 = false := by
          cases h : L 18 with
          | false => rfl
          | true => rw [hd10 h] at hLi; cases hLi
        obtain rfl : V = w3.drew := by
          unfold BlE.psC at hC
          rw [h13, h10, hLi] at hC
          exact hC
        refine AnyOrd.gives_value (v := .slice (some ⟨w3.heap.size, 0, none⟩) 1 1) (w' := w3.drew.alloc (.cells #[.int .i64 (t : Int), .int .i64 (zv - 1)] 103)) (by simp [execOp, go_sem, e1]) ⟨rfl, ?_⟩
        unfold BlE.psC
        rw [show AnyOrd.updB L 17 21 = false from h13, show AnyOrd.updB L 17 18 = false from h10, show AnyOrd.updB L 17 17 = true from rfl]
        rfl
      · have e1 : ev (.tmp 35) = .slice sa S.length sc := he1 4 35 (by omega) rfl (by decide)
        have e2 : ev (.tmp 48) = .slice (some ⟨w3.heap.size, 0, none⟩) 1 1 := he1 17 48 (by omega) rfl (by decide)
        have h9 : L 17 = true := haft ⟨17, .data⟩ (by simp) rfl
        obtain rfl : V = w3.drew.alloc (.cells #[.int .i64 (t : Int), .int .i64 (zv - 1)] 103) := by
          unfold BlE.psC at hC
          rw [h13, hLi, h9] at hC
          exact hC
        have hr : ∀ o : Oper, o.op = .call { callee := .builtin .append, args := #[.tmp 35, .tmp 48], argTypes := #[66, 66] } → o.type = 66 → (execOp ev o).run Tryz.prog (w3.drew.alloc (.cells #[.int .i64 (t : Int), .int .i64 (zv - 1)] 103)) = .ok (.value v4) w4 := fun o ho ht => by
          unfold execOp
          simp only [ho, ht, resolve, invoke, builtin, Sem.run_bind, Sem.run_pure, Result.andThen_ok, List.map_toArray, List.map_cons, List.map_nil, e1, e2]
          have := hrun4
          rw [show (w3.drew).heap.size = w3.heap.size from rfl] at this
          rw [this]
          rfl
        refine AnyOrd.gives_value (v := v4) (w' := w4) (hr _ rfl rfl) ⟨rfl, ?_⟩
        unfold BlE.psC
        rw [show AnyOrd.updB L 18 21 = false from h13, show AnyOrd.updB L 18 18 = true from rfl]
        rfl
      · have e1 : ev (.tmp 31) = .pointer (some ⟨x.p, 0, none⟩) := he1 0 31 (by omega) rfl (by decide)
        exact AnyOrd.gives_value (w' := V) (by simp [execOp, go_sem, e1]; rfl) ⟨rfl, hC.other (by decide) (by decide) (by decide)⟩
      · have e1 : ev (.tmp 50) = .pointer (some ⟨x.p, 0, none⟩) := he1 19 50 (by omega) rfl (by decide)
        exact AnyOrd.gives_value (w' := V) (by simp [execOp, go_sem, e1]; rfl) ⟨rfl, hC.other (by decide) (by decide) (by decide)⟩
      · have e1 : ev (.tmp 51) = .pointer (some ⟨x.p, 5, none⟩) := he1 20 51 (by omega) rfl (by decide)
        have e2 : ev (.tmp 49) = v4 := he1 18 49 (by omega) rfl (by decide)
        have h10 : L 18 = true := haft ⟨18, .data⟩ (by simp) rfl
        obtain rfl : V = w4 := by
          unfold BlE.psC at hC
          rw [hLi, h10] at hC
          exact hC
        refine AnyOrd.gives_skip (w' := V.setCell ⟨x.p, 5, none⟩ v4) (by rw [hv4] at e2 ⊢; simp [execOp, go_sem, e1, e2, cW4.1, cW4.2]) ⟨rfl, ?_⟩
        unfold BlE.psC
        rw [if_pos (show AnyOrd.updB L 21 21 = true from rfl)]

    · intro L V hall hC
      unfold BlE.psC at hC
      rw [if_pos (hall 21 (by decide))] at hC
      subst hC
      generalize hfr : AnyOrd.canon _ _ _ _ = fr
      have hfr2 : fr = { tmps := #[.pointer (some ⟨x.p, 0, none⟩), .int .i64 (v : Int), .pointer (some ⟨w.heap.size, 0, none⟩), undef, .int .i64 (g : Int), undef, undef, .pointer (some ⟨x.p, 0, none⟩), .pointer (some ⟨x.p, 0, none⟩), .pointer (some ⟨x.p, 1, none⟩), .pointer (some ⟨x.p, 1, none⟩), .slice (some ⟨b, o, none⟩) x.n x.f.c1, .int .i64 (v : Int), .pointer (some ⟨b, o + v, none⟩), .int .i64 (g : Int), .int .i64 (g : Int), .bool true, .pointer (some ⟨x.p, 0, none⟩), .pointer (some ⟨x.p, 0, none⟩), .pointer (some ⟨x.p, 0, none⟩), .pointer (some ⟨x.p, 6, none⟩), yv, .pointer (some ⟨x.p, 0, none⟩), .pointer (some ⟨x.p, 0, none⟩), .pointer (some ⟨x.p, 5, none⟩), .slice sa S.length sc, .int .i64 (S.length : Int), .slice (some ⟨w.heap.size + 1, 0, none⟩) 1 1, v', .pointer (some ⟨x.p, 0, none⟩), .pointer (some ⟨x.p, 6, none⟩), .pointer (some ⟨x.p, 0, none⟩), .pointer (some ⟨x.p, 0, none⟩), .pointer (some ⟨x.p, 0, none⟩), .pointer (some ⟨x.p, 5, none⟩), .slice sa S.length sc, .int .i64 (g : Int), .int .i64 (t : Int), .pointer (some ⟨x.p, 0, none⟩), .pointer (some ⟨x.p, 0, none⟩), .pointer (some ⟨x.p, 1, none⟩), .pointer (some ⟨x.p, 2, none⟩), .slice (some ⟨b2, o2, none⟩) x.n x.f.c2, .int .i64 (v : Int), .pointer (some ⟨b2, o2 + v, none⟩), .int .i64 zv, .int .i64 (zv - 1), .agg #[.int .i64 (t : Int), .int .i64 (zv - 1)], .slice (some ⟨w3.heap.size, 0, none⟩) 1 1, v4, .pointer (some ⟨x.p, 0, none⟩), .pointer (some ⟨x.p, 5, none⟩), undef, undef, undef, undef, undef, undef, undef, undef, undef, undef, undef, undef, undef, undef, undef, undef, undef, undef, undef, undef, undef, undef, undef, undef, undef, undef, undef, undef, undef, undef, undef, undef, undef, undef, undef, undef, undef, undef, undef], defers := [] } := by rw [← hfr]; kernel_rfl
      subst hfr2
      clear hfr hV4 cW4 hrun4 hall hv4
      go_step
      go_step
      exact enter_tail x w0 _ v4 v' D G _ _ F w.heap.size v _ _ HTAIL.out.1 hbf5 HTAIL.out.2 hv4Bf hvn HF.out HT3.out HX.out
end Go.Proofs.YtalfpbalekbinaaGreat
