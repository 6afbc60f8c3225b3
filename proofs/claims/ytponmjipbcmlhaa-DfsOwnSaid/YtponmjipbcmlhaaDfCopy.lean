/-
  The document's own Copy of a forest.
-/
import Derived.Test.YtponmjipbcmlhaaDfFor
namespace Go.Proofs.Ytponmjipbcmlhaa
open Go.RowKit AnyOrd

/-- What an empty list is. -/
def newSp : OpSpec := ⟨[], fun v _ lo hi w => v = .slice (some ⟨lo, 0, none⟩) 0 0 ∧ lo < hi ∧ w.heap[lo]? = some (.cells #[] 3 (0, 0))⟩
/-- Where a field lies. -/
def fldSp (b k : Nat) : OpSpec := ⟨[], fun v _ _ _ _ => v = .pointer (some ⟨b, k, none⟩)⟩
/-- What lies there. -/
def lodSp (j : Nat) (x : Value) : OpSpec := ⟨[j], fun v _ _ _ _ => v = x⟩
/-- A copy. -/
def cpySp (i j B : Nat) (l : List Int) : OpSpec := ⟨[i, j], fun v vs lo hi w => ∃ g c b y, v = .slice (some ⟨g, 0, none⟩) l.length c ∧ vs = [.slice (some ⟨b, 0, none⟩) 0 0, y] ∧ (g = b ∨ (lo ≤ g ∧ g < hi)) ∧ OwnZ w B v l⟩

def fcSpec (b B : Nat) (f : For) (s : Df.St) : Nat → OpSpec
  | 0 => newSp
  | 1 => fldSp b 0
  | 2 => lodSp 1 (.slice f.a1 s.par.length f.c1)
  | 3 => cpySp 0 2 B s.par
  | 4 => newSp
  | 5 => fldSp b 1
  | 6 => lodSp 5 (.slice f.a2 s.hei.length f.c2)
  | 7 => cpySp 4 6 B s.hei
  | 8 => newSp
  | 9 => fldSp b 2
  | 10 => lodSp 9 (.slice f.a3 s.ord.length f.c3)
  | 11 => cpySp 8 10 B s.ord
  | 12 => newSp
  | 13 => fldSp b 3
  | 14 => lodSp 13 (.slice f.a4 s.ori.length f.c4)
  | 15 => cpySp 12 14 B s.ori
  | _ => ⟨[3, 7, 11, 15], fun v vs _ _ _ => ∃ x1 x2 x3 x4, vs = [x1, x2, x3, x4] ∧ v = .agg #[x1, x2, x3, x4]⟩

theorem newSp.stab {v : Value} {vs : List Value} {lo hi : Nat} {w w' : World} (hh : hi ≤ w.heap.size) (hb : Below w.heap.size w w') (h : newSp.post v vs lo hi w) : newSp.post v vs lo hi w' :=
  ⟨h.1, h.2.1, (hb.block lo (Nat.lt_of_lt_of_le h.2.1 hh)).trans h.2.2⟩
theorem cpySp.stab {i j B : Nat} {l : List Int} {v : Value} {vs : List Value} {lo hi : Nat} {w w' : World} (hb : Below w.heap.size w w') (h : (cpySp i j B l).post v vs lo hi w) : (cpySp i j B l).post v vs lo hi w' := by
  obtain ⟨g, c, b, y, h1, h2, h3, h4⟩ := h
  exact ⟨g, c, b, y, h1, h2, h3, h4.later hb⟩

theorem gives_copy {i j B lo n ca : Nat} {l : List Int} {t a b : Tmp} {ps : String} {af : Array Edge} {ev : Operand → Value} {U : World} {x y : Value} {ao : Option Addr} (ha : ev (.tmp a) = x) (hb : ev (.tmp b) = y) (hx : x = .slice (some ⟨lo, 0, none⟩) 0 0) (hblk : U.heap[lo]? = some (.cells #[] 3 (0, 0))) (hB : B ≤ lo) (hy : y = .slice ao n ca) (hl : Lst U ao n ca l) (hn : n ≤ 17592186043904) :
    Gives Try.prog { dst := some t, op := .call { callee := .builtin .append, args := #[.tmp a, .tmp b], argTypes := #[26, 26] }, type := 26, pos := ps, after := af, guard := none } ev U fun v w' => Below U.heap.size U w' ∧ (cpySp i j B l).post v [x, y] U.heap.size w'.heap.size w' := by
  obtain ⟨g, c, w', hrun, h1, h2, h3, h4⟩ := run_copyI 26 U lo ao n ca l hblk hl hn
  have hlen := hl.len
  subst hlen
  refine gives_value (v := .slice (some ⟨g, 0, none⟩) l.length c) (w' := w') ?_ ⟨h4, g, c, lo, y, rfl, by rw [hx], ?_, h2 B hB⟩
  · simp [execOp, resolve, invoke, builtin, ha, hb, hx, hy, hrun, Result.andThen]
  · rcases h1 with h1 | h1
    · exact .inl h1
    · exact .inr ⟨h1, h3⟩

theorem gives_store4 {t1 t2 : Tmp} {ty : TypeId} {ps : String} {af : Array Edge} {ev : Operand → Value} {V : World} {R x1 x2 x3 x4 l1 l2 l3 l4 d1 d2 d3 d4 : Nat} {y1 y2 y3 y4 : Value} (h1 : ev (.tmp t1) = .pointer (some ⟨R, 0, none⟩)) (h2 : ev (.tmp t2) = .agg #[.slice (some ⟨x1, 0, none⟩) l1 d1, .slice (some ⟨x2, 0, none⟩) l2 d2, .slice (some ⟨x3, 0, none⟩) l3 d3, .slice (some ⟨x4, 0, none⟩) l4 d4])
    (hb : V.heap[R]? = some (.cells #[y1, y2, y3, y4] 28 (0, 0))) :
    Gives Try.prog { dst := none, op := .store 28 (.tmp t1) (.tmp t2), type := ty, pos := ps, after := af, guard := none } ev V fun _ w' => w' = put4 V R (.slice (some ⟨x1, 0, none⟩) l1 d1) (.slice (some ⟨x2, 0, none⟩) l2 d2) (.slice (some ⟨x3, 0, none⟩) l3 d3) (.slice (some ⟨x4, 0, none⟩) l4 d4) := by
  obtain ⟨k0, k1, k2, k3, kf⟩ := four_cells hb
  refine gives_skip ?_ rfl
  unfold put4
  simp [execOp, go_sem, h1, h2, k0, k1, k2, k3, kf]

theorem copy_res {tm : Array Value} {V : World} {R : Nat} {y1 y2 y3 y4 : Value} (h2 : tm.getD 2 undef = .pointer (some ⟨R, 0, none⟩)) (hb : V.heap[R]? = some (.cells #[y1, y2, y3, y4] 28 (0, 0))) : (results Try.f16 tm).run Try.prog V = .ok (.agg #[y1, y2, y3, y4]) V := by
  obtain ⟨k0, k1, k2, k3, -⟩ := four_cells hb
  have h3 : tm[2]?.getD undef = .pointer (some ⟨R, 0, none⟩) := by simpa using h2
  simp [results, Try.results16, go_sem, h3, k0, k1, k2, k3]

/-- What Copy answers. -/
def CopyFPost (s : Df.St) (w : World) (e : Ending) (w' : World) : Prop :=
  ∃ v1 v2 v3 v4, e = .returned (.agg #[v1, v2, v3, v4]) ∧ OwnF w' w.heap.size v1 v2 v3 v4 s ∧ Below w.heap.size w w'

set_option maxRecDepth 100000 in
set_option maxHeartbeats 8000000 in
theorem copyF_any (f : For) (s : Df.St) (w : World) (h : LstF w f s) :
    Calls Try.prog 16 #[f.val s] w (CopyFPost s w) := by
  obtain ⟨W, hW⟩ : ∃ W, W = (w.alloc (.cells #[.slice f.a1 s.par.length f.c1, .slice f.a2 s.hei.length f.c2, .slice f.a3 s.ord.length f.c3, .slice f.a4 s.ori.length f.c4] 28)).alloc (.cells #[.slice none 0 0, .slice none 0 0, .slice none 0 0, .slice none 0 0] 28) := ⟨_, rfl⟩
  have hB0 : Below w.heap.size w W := by rw [hW]; exact ((Below.refl _ _).alloc (Nat.le_refl _) _).alloc (by simp) _
  have hsz : W.heap.size = w.heap.size + 2 := by rw [hW]; simp
  have g1 : W.heap[w.heap.size]? = some (.cells #[.slice f.a1 s.par.length f.c1, .slice f.a2 s.hei.length f.c2, .slice f.a3 s.ord.length f.c3, .slice f.a4 s.ori.length f.c4] 28 (0, 0)) := by
    rw [hW, Below.heap_alloc _ _ _ (by simp)]
    exact heap_alloc_new w _
  have g2 : W.heap[w.heap.size + 1]? = some (.cells #[.slice none 0 0, .slice none 0 0, .slice none 0 0, .slice none 0 0] 28 (0, 0)) := by
    rw [hW]
    exact alloc_at (by simp)
  have hF := h.later hB0
  have HWW := Nu.hid hW
  clear h hW
  go_enter Try.func16, Try.ntmps16
  go_wp2_with fail
  rename_i K1 hK1
  rw [← HWW.out]
  refine wp_region_any (by kernel_rfl) ?_
  have hbW : Below W.heap.size W { W with drawn := W.drawn + 1 } := (Below.refl _ _).drew
  refine AnyOrd.any (fcSpec w.heap.size W.heap.size f s) 17 20 (by decide) rfl (by kernel_rfl) ?_ ?_ ?_
  · intro i hi v vs lo hi' U U' h1 h2 h3
    have hc : i = 0 ∨ i = 1 ∨ i = 2 ∨ i = 3 ∨ i = 4 ∨ i = 5 ∨ i = 6 ∨ i = 7 ∨ i = 8 ∨ i = 9 ∨ i = 10 ∨ i = 11 ∨ i = 12 ∨ i = 13 ∨ i = 14 ∨ i = 15 ∨ i = 16 := by omega
    rcases hc with rfl | rfl | rfl | rfl | rfl | rfl | rfl | rfl | rfl | rfl | rfl | rfl | rfl | rfl | rfl | rfl | rfl <;> first | exact newSp.stab h1 h2 h3 | exact cpySp.stab h2 h3 | exact h3
  · intro i o ρ U ev hi ho hb hd he1 he2 _
    have hb2 : Below W.heap.size W U := hbW.trans hb
    have hFU := hF.later hb2
    have k1 := (hb2.block w.heap.size (by omega)).trans g1
    obtain ⟨c0, c1, c2, c3, -⟩ := four_cells k1
    have hnew : ∀ (t : Tmp) (ps : String) (af : Array Edge) (ev : Operand → Value), Gives Try.prog { dst := some t, op := .buildSlice 26 0 #[], type := 26, pos := ps, after := af, guard := none } ev U fun v w' => Below U.heap.size U w' ∧ newSp.post v [] U.heap.size w'.heap.size w' := fun t ps af ev => by
      refine gives_value (v := .slice (some ⟨U.heap.size, 0, none⟩) 0 0) (w' := U.alloc (.cells #[] 3)) ?_ ⟨(Below.refl _ _).alloc (Nat.le_refl _) _, rfl, by simp, heap_alloc_new _ _⟩
      simp [execOp, go_sem]
    have hc : i = 0 ∨ i = 1 ∨ i = 2 ∨ i = 3 ∨ i = 4 ∨ i = 5 ∨ i = 6 ∨ i = 7 ∨ i = 8 ∨ i = 9 ∨ i = 10 ∨ i = 11 ∨ i = 12 ∨ i = 13 ∨ i = 14 ∨ i = 15 ∨ i = 16 := by omega
    rcases hc with rfl | rfl | rfl | rfl | rfl | rfl | rfl | rfl | rfl | rfl | rfl | rfl | rfl | rfl | rfl | rfl | rfl <;> obtain rfl := Option.some.inj ho
    · exact hnew _ _ _ _
    · have e1 := he2 1 (by kernel_rfl)
      exact gives_value (v := .pointer (some ⟨w.heap.size, 0, none⟩)) (w' := U) (by simp [execOp, go_sem, e1]) ⟨Below.refl _ _, rfl⟩
    · obtain ⟨_, _, _, _, _, r4⟩ := hd 1 (by simp [fcSpec, lodSp])
      have r5 : ρ 1 = .pointer (some ⟨w.heap.size, 0, none⟩) := r4
      exact gives_value (v := .slice f.a1 s.par.length f.c1) (w' := U) (by simp [execOp, go_sem, he1 1 4 (by omega) rfl (by decide), r5, c0]) ⟨Below.refl _ _, rfl⟩
    · obtain ⟨lo, hi', q1, q2, q3, r1, r2, r3⟩ := hd 0 (by simp [fcSpec, cpySp])
      obtain ⟨_, _, _, _, _, r4⟩ := hd 2 (by simp [fcSpec, cpySp])
      exact gives_copy (he1 0 3 (by omega) rfl (by decide)) (he1 2 5 (by omega) rfl (by decide)) r1 r3 q1 r4 hFU.l1 hFU.n1
    · exact hnew _ _ _ _
    · have e1 := he2 1 (by kernel_rfl)
      exact gives_value (v := .pointer (some ⟨w.heap.size, 1, none⟩)) (w' := U) (by simp [execOp, go_sem, e1]) ⟨Below.refl _ _, rfl⟩
    · obtain ⟨_, _, _, _, _, r4⟩ := hd 5 (by simp [fcSpec, lodSp])
      have r5 : ρ 5 = .pointer (some ⟨w.heap.size, 1, none⟩) := r4
      exact gives_value (v := .slice f.a2 s.hei.length f.c2) (w' := U) (by simp [execOp, go_sem, he1 5 8 (by omega) rfl (by decide), r5, c1]) ⟨Below.refl _ _, rfl⟩
    · obtain ⟨lo, hi', q1, q2, q3, r1, r2, r3⟩ := hd 4 (by simp [fcSpec, cpySp])
      obtain ⟨_, _, _, _, _, r4⟩ := hd 6 (by simp [fcSpec, cpySp])
      exact gives_copy (he1 4 7 (by omega) rfl (by decide)) (he1 6 9 (by omega) rfl (by decide)) r1 r3 q1 r4 hFU.l2 hFU.n2
    · exact hnew _ _ _ _
    · have e1 := he2 1 (by kernel_rfl)
      exact gives_value (v := .pointer (some ⟨w.heap.size, 2, none⟩)) (w' := U) (by simp [execOp, go_sem, e1]) ⟨Below.refl _ _, rfl⟩
    · obtain ⟨_, _, _, _, _, r4⟩ := hd 9 (by simp [fcSpec, lodSp])
      have r5 : ρ 9 = .pointer (some ⟨w.heap.size, 2, none⟩) := r4
      exact gives_value (v := .slice f.a3 s.ord.length f.c3) (w' := U) (by simp [execOp, go_sem, he1 9 12 (by omega) rfl (by decide), r5, c2]) ⟨Below.refl _ _, rfl⟩
    · obtain ⟨lo, hi', q1, q2, q3, r1, r2, r3⟩ := hd 8 (by simp [fcSpec, cpySp])
      obtain ⟨_, _, _, _, _, r4⟩ := hd 10 (by simp [fcSpec, cpySp])
      exact gives_copy (he1 8 11 (by omega) rfl (by decide)) (he1 10 13 (by omega) rfl (by decide)) r1 r3 q1 r4 hFU.l3 hFU.n3
    · exact hnew _ _ _ _
    · have e1 := he2 1 (by kernel_rfl)
      exact gives_value (v := .pointer (some ⟨w.heap.size, 3, none⟩)) (w' := U) (by simp [execOp, go_sem, e1]) ⟨Below.refl _ _, rfl⟩
    · obtain ⟨_, _, _, _, _, r4⟩ := hd 13 (by simp [fcSpec, lodSp])
      have r5 : ρ 13 = .pointer (some ⟨w.heap.size, 3, none⟩) := r4
      exact gives_value (v := .slice f.a4 s.ori.length f.c4) (w' := U) (by simp [execOp, go_sem, he1 13 16 (by omega) rfl (by decide), r5, c3]) ⟨Below.refl _ _, rfl⟩
    · obtain ⟨lo, hi', q1, q2, q3, r1, r2, r3⟩ := hd 12 (by simp [fcSpec, cpySp])
      obtain ⟨_, _, _, _, _, r4⟩ := hd 14 (by simp [fcSpec, cpySp])
      exact gives_copy (he1 12 15 (by omega) rfl (by decide)) (he1 14 17 (by omega) rfl (by decide)) r1 r3 q1 r4 hFU.l4 hFU.n4
    · obtain ⟨_, _, _, _, _, g1, d1, _, _, r1, _⟩ := hd 3 (by simp [fcSpec])
      obtain ⟨_, _, _, _, _, g2, d2, _, _, r2, _⟩ := hd 7 (by simp [fcSpec])
      obtain ⟨_, _, _, _, _, g3, d3, _, _, r3, _⟩ := hd 11 (by simp [fcSpec])
      obtain ⟨_, _, _, _, _, g4, d4, _, _, r4, _⟩ := hd 15 (by simp [fcSpec])
      exact gives_value (v := .agg #[ρ 3, ρ 7, ρ 11, ρ 15]) (w' := U) (by simp [execOp, go_sem, he1 3 6 (by omega) rfl (by decide), he1 7 10 (by omega) rfl (by decide), he1 11 14 (by omega) rfl (by decide), he1 15 18 (by omega) rfl (by decide), r1, r2, r3, r4]) ⟨Below.refl _ _, _, _, _, _, rfl, rfl⟩
  · intro ρ lo hi V a _ hdef he1 he2 hb hd hdis
    have p2 : a.eval (.tmp 2) = .pointer (some ⟨w.heap.size + 1, 0, none⟩) := he2 2 (by kernel_rfl)
    have p19 := he1 16 19 (by omega) rfl (by decide)
    have hb2 : Below W.heap.size W V := hbW.trans hb
    have hk2 := (hb2.block (w.heap.size + 1) (by omega)).trans g2
    obtain ⟨a1, _, _, m1, n1, _⟩ := hd 0 (by omega)
    obtain ⟨a2, _, _, m2, n2, _⟩ := hd 4 (by omega)
    obtain ⟨a3, _, _, m3, n3, _⟩ := hd 8 (by omega)
    obtain ⟨a4, _, _, m4, n4, _⟩ := hd 12 (by omega)
    obtain ⟨b1, _, _, x1, d1, y1, _, r1, s1, t1, u1⟩ := hd 3 (by omega)
    obtain ⟨b2, _, _, x2, d2, y2, _, r2, s2, t2, u2⟩ := hd 7 (by omega)
    obtain ⟨b3, _, _, x3, d3, y3, _, r3, s3, t3, u3⟩ := hd 11 (by omega)
    obtain ⟨b4, _, _, x4, d4, y4, _, r4, s4, t4, u4⟩ := hd 15 (by omega)
    obtain ⟨_, _, _, q1, q2, q3, q4, hq, hv⟩ := hd 16 (by omega)
    have hv2 : ρ 16 = .agg #[ρ 3, ρ 7, ρ 11, ρ 15] := by
      have e : [ρ 3, ρ 7, ρ 11, ρ 15] = [q1, q2, q3, q4] := hq
      simp at e
      obtain ⟨rfl, rfl, rfl, rfl⟩ := e
      exact hv
    have z1 : lo 0 = y1 := by
      have e : [ρ 0, ρ 2] = _ := s1
      rw [m1] at e
      injection e with e1
      injection e1 with e2
      injection e2 with e3
      injection e3
    have z2 : lo 4 = y2 := by
      have e : [ρ 4, ρ 6] = _ := s2
      rw [m2] at e
      injection e with e1
      injection e1 with e2
      injection e2 with e3
      injection e3
    have z3 : lo 8 = y3 := by
      have e : [ρ 8, ρ 10] = _ := s3
      rw [m3] at e
      injection e with e1
      injection e1 with e2
      injection e2 with e3
      injection e3
    have z4 : lo 12 = y4 := by
      have e : [ρ 12, ρ 14] = _ := s4
      rw [m4] at e
      injection e with e1
      injection e1 with e2
      injection e2 with e3
      injection e3
    have D := fun i j (h1 : i < 17) (h2 : j < 17) (h3 : i ≠ j) => hdis i j h1 h2 h3
    have ne12 : x1 ≠ x2 := by
      have := D 0 4 (by omega) (by omega) (by omega)
      have := D 0 7 (by omega) (by omega) (by omega)
      have := D 3 4 (by omega) (by omega) (by omega)
      have := D 3 7 (by omega) (by omega) (by omega)
      omega
    have ne13 : x1 ≠ x3 := by
      have := D 0 8 (by omega) (by omega) (by omega)
      have := D 0 11 (by omega) (by omega) (by omega)
      have := D 3 8 (by omega) (by omega) (by omega)
      have := D 3 11 (by omega) (by omega) (by omega)
      omega
    have ne14 : x1 ≠ x4 := by
      have := D 0 12 (by omega) (by omega) (by omega)
      have := D 0 15 (by omega) (by omega) (by omega)
      have := D 3 12 (by omega) (by omega) (by omega)
      have := D 3 15 (by omega) (by omega) (by omega)
      omega
    have ne23 : x2 ≠ x3 := by
      have := D 4 8 (by omega) (by omega) (by omega)
      have := D 4 11 (by omega) (by omega) (by omega)
      have := D 7 8 (by omega) (by omega) (by omega)
      have := D 7 11 (by omega) (by omega) (by omega)
      omega
    have ne24 : x2 ≠ x4 := by
      have := D 4 12 (by omega) (by omega) (by omega)
      have := D 4 15 (by omega) (by omega) (by omega)
      have := D 7 12 (by omega) (by omega) (by omega)
      have := D 7 15 (by omega) (by omega) (by omega)
      omega
    have ne34 : x3 ≠ x4 := by
      have := D 8 12 (by omega) (by omega) (by omega)
      have := D 8 15 (by omega) (by omega) (by omega)
      have := D 11 12 (by omega) (by omega) (by omega)
      have := D 11 15 (by omega) (by omega) (by omega)
      omega
    rw [r1] at u1
    rw [r2] at u2
    rw [r3] at u3
    rw [r4] at u4
    rw [r1, r2, r3, r4] at hv2
    have hown : OwnF V W.heap.size (.slice (some ⟨x1, 0, none⟩) s.par.length d1) (.slice (some ⟨x2, 0, none⟩) s.hei.length d2) (.slice (some ⟨x3, 0, none⟩) s.ord.length d3) (.slice (some ⟨x4, 0, none⟩) s.ori.length d4) s := by
      have ap : ∀ {x y n1 n2 c1 c2 : Nat}, x ≠ y → ∀ b, (Value.slice (some ⟨x, 0, none⟩) n1 c1).ownBlock = some b → (Value.slice (some ⟨y, 0, none⟩) n2 c2).ownBlock ≠ some b := fun h b h1 h2 => h ((Option.some.inj h1).trans (Option.some.inj h2).symm)
      exact ⟨u1, u2, u3, u4, ap ne12, ap ne13, ap ne14, ap ne23, ap ne24, ap ne34⟩
    obtain ⟨z0, hz0⟩ : ∃ z, ρ 16 = z := ⟨_, rfl⟩
    have hoZ := hown.same (w' := put4 V (w.heap.size + 1) (.slice (some ⟨x1, 0, none⟩) s.par.length d1) (.slice (some ⟨x2, 0, none⟩) s.hei.length d2) (.slice (some ⟨x3, 0, none⟩) s.ord.length d3) (.slice (some ⟨x4, 0, none⟩) s.ori.length d4)) fun g hg _ => put4_other (by omega) _ _ _ _
    have hbZ := below_put4 (hB0.trans (hb2.mono hB0.size)) (R := w.heap.size + 1) (by omega) (.slice (some ⟨x1, 0, none⟩) s.par.length d1) (.slice (some ⟨x2, 0, none⟩) s.hei.length d2) (.slice (some ⟨x3, 0, none⟩) s.ord.length d3) (.slice (some ⟨x4, 0, none⟩) s.ori.length d4)
    have HK2 := Nu.hid hk2
    have HR := Nu.hid (put4_heap hk2 (.slice (some ⟨x1, 0, none⟩) s.par.length d1) (.slice (some ⟨x2, 0, none⟩) s.hei.length d2) (.slice (some ⟨x3, 0, none⟩) s.ord.length d3) (.slice (some ⟨x4, 0, none⟩) s.ori.length d4))
    have HOZ := Nu.hid (hoZ.lower hB0.size)
    have HBZ := Nu.hid hbZ
    clear hd hdis D hown hoZ hbZ ne12 ne13 ne14 ne23 ne24 ne34 u1 u2 u3 u4 z1 z2 z3 z4 hk2 hb hb2 hF g1 g2 hz0 n1 n2 n3 n4
    rw [hv2] at p19
    have p2' : a.tmps.getD 2 undef = .pointer (some ⟨w.heap.size + 1, 0, none⟩) := p2
    clear he1 he2
    refine wpAny_ready (rs := [17]) (by kernel_rfl) (by simp) ?_
    refine AllReady.cons rfl (fun K hK => ?_) AllReady.nil
    rw [if_pos (by rfl)]
    refine Gives.wp (R := fun _ w' => w' = put4 V (w.heap.size + 1) (.slice (some ⟨x1, 0, none⟩) s.par.length d1) (.slice (some ⟨x2, 0, none⟩) s.hei.length d2) (.slice (some ⟨x3, 0, none⟩) s.ord.length d3) (.slice (some ⟨x4, 0, none⟩) s.ori.length d4)) ?_ ?_
    · exact gives_store4 p2 p19 HK2.out
    · rintro v w' rfl
      refine hK _ _ ?_
      clear hK K
      refine wpAny_done (by kernel_rfl) ?_ _
      refine hK1 _ _ (wp_ret ?_)
      exact bodyPost_ret (copy_res p2' HR.out) hdef ⟨_, _, _, _, rfl, HOZ.out, HBZ.out⟩

end Go.Proofs.Ytponmjipbcmlhaa
