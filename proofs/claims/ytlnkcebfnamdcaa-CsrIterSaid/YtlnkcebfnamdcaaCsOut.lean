/-
  The statements' own 'out': what Out gives, gathered.
-/
import Derived.Test.YtlnkcebfnamdcaaCsIt
namespace Go.Proofs.Ytlnkcebfnamdcaa
open Go.RowKit Go.Shelf

attribute [local go_sem] Oper.semAt_some

/-- '== nil' of an iterator that is there. -/
theorem run_eql_iter (W : World) (fn : Fn) (ts lb : Array Value) : (binOp .eql 46 (.func fn ts lb) .nilFunc).run Try.prog W = .ok (.bool false) W := by
  have h : ∀ d : Nat, (Op.equalIn (d + 1) 46 (.func fn ts lb) .nilFunc).run Try.prog W = .ok false W := fun d => by
    simp [Op.equalIn, run_underlying Try.underlying46]
  simp only [binOp]
  simp [Op.equal, Op.maxDepth, h 9999]

/-- 'l = append(l, ..)' where l's box lies ahead of the rows. -/
theorem boxed_gathered {W w1 : World} {n₀ B : Nat} {t e : TypeId} {size : Nat} {v v' : Value} {k m : Nat} {xs ys : List Value} {tmp : Obj}
    (hv : Boxed W B t v) (hte : t ≠ e) (hrow : W.ownsRow n₀ e size v k xs) (hn₀ : n₀ ≤ W.heap.size)
    (hown' : w1.ownsRow n₀ e size v' m ys) (hgrow : (W.alloc tmp).grownBy w1 v.ownBlock) :
    Boxed w1 B t v ∧ Boxed (w1.setCell ⟨B, 0, none⟩ v') B t v' ∧ (w1.setCell ⟨B, 0, none⟩ v').ownsRow n₀ e size v' m ys ∧ KeepsOthers W (w1.setCell ⟨B, 0, none⟩ v') ∧
      W.heap.size ≤ (w1.setCell ⟨B, 0, none⟩ v').heap.size ∧ (∀ j, j < n₀ → j ≠ B → (w1.setCell ⟨B, 0, none⟩ v').heap[j]? = W.heap[j]?) ∧ ∀ n₁, n₁ ≤ n₀ → n₁ ≤ B → Below n₁ W (w1.setCell ⟨B, 0, none⟩ v') := by
  have hfar : ∀ j, v.ownBlock = some j → n₀ ≤ j := fun j ej => by
    rcases hrow.2 with ⟨rfl, _⟩ | ⟨g, cap, cur, rfl, hb, _, _⟩
    · simp [Value.ownBlock] at ej
    · obtain rfl : g = j := by simpa [Value.ownBlock] using ej
      exact hb
  have hv1 : Boxed w1 B t v := (hv.alloc tmp).kept hgrow (hv.not_row hte hrow)
  have hsz : W.heap.size ≤ w1.heap.size := by
    have := hgrow.size
    rw [World.size_alloc] at this
    omega
  have hblk : ∀ j, j < n₀ → j ≠ B → (w1.setCell ⟨B, 0, none⟩ v').heap[j]? = W.heap[j]? := fun j hj hne => by
    rw [heap_setCell_other w1 ⟨B, 0, none⟩ j v' hne, hgrow.block j (by rw [World.size_alloc]; omega) (fun e => by have := hfar j e.symm; omega)]
    exact Below.heap_alloc W tmp j (by omega)
  refine ⟨hv1, hv1.set v', hown'.kept (grownBy_setCell' w1 B v') (.inr (hv1.not_row hte hown').symm), ?_, by simpa using hsz, hblk, fun n₁ h1 h2 => ⟨hgrow.os, hgrow.tape, hgrow.output, by simpa using hsz, fun j hj => hblk j (by omega) (by omega)⟩⟩
  refine ((KeepsOthers.alloc W tmp).trans (KeepsOthers.of_grownBy hgrow fun j o ej hj => ?_)).trans (KeepsOthers.setCell _ _ _)
  rcases (hrow.alloc tmp).2 with ⟨rfl, _⟩ | ⟨g, cap, cur, rfl, _, hgb, _⟩
  · simp [Value.ownBlock] at ej
  · obtain rfl : g = j := by simpa [Value.ownBlock] using ej
    rw [hgb] at hj; cases hj; rfl

theorem ownsRow_base {W : World} {B B' : Nat} {e : TypeId} {size : Nat} {v : Value} {k : Nat} {xs : List Value} (h : W.ownsRow B e size v k xs) (hB : B' ≤ B) : W.ownsRow B' e size v k xs := by
  refine ⟨h.1, ?_⟩
  rcases h.2 with h2 | ⟨g, cap, cur, h1, h2, h3⟩
  · exact .inl h2
  · exact .inr ⟨g, cap, cur, h1, Nat.le_trans hB h2, h3⟩

theorem take_of_prefix {α : Type} {pre zs : List α} (h : pre <+: zs) {k : Nat} (hk : pre.length = k) : zs.take k = pre := by
  obtain ⟨r, rfl⟩ := h
  subst hk
  simp

/-- v is a slice of the ints l, laid since block B. -/
def OwnZ (w : World) (B : Nat) (v : Value) (l : List Int) : Prop := w.ownsRow B 3 1 v l.length (l.map (Value.int .i64))

def OutPost (n : Nat) (es : List (Int × Int)) (x c : Int) (w : World) (e : Ending) (w' : World) : Prop :=
  ∃ v, e = .returned (.tuple #[v, .bool true]) ∧ OwnZ w' w.heap.size v ((Cs.outZ n es x).take (c.toNat + 1)) ∧ Below w.heap.size w w'

set_option maxRecDepth 100000 in
set_option maxHeartbeats 4000000 in
theorem out_any (v : Value) (n : Nat) (es : List (Int × Int)) (x c : Int) (w : World) (h : IsAdj w v n es) : Calls Try.prog 20 #[v, .int .i64 x, .int .i64 c] w (OutPost n es x c w) := by
  obtain ⟨i0, hi, hz0, hz1, hz2⟩ := info_parts Try.infoNum
  have hbd := h.bounds
  have hzl : (Cs.outZ n es x).length ≤ 8388608 := by
    rw [Cs.outZ_len]
    have := Cs.outI_len_le (n := n) (es := es) (v := x)
    omega
  have hB0 : Below w.heap.size w ((w.alloc (.cells #[.int .i64 c] 3)).alloc (.cells #[.slice none 0 0] 25)) := ((Below.refl _ _).alloc (Nat.le_refl _) _).alloc (by simp) _
  have HO := Nu.hid (citer_any v n es x w _ h hB0)
  have HB0 := Nu.hid hB0
  have hadj := h
  have hnil := fun W Bs => run_eql_iter W (.func 36) #[] #[.pointer (some ⟨Bs, 0, none⟩)]
  refine (callsIn_wide (n := 5)).1 ?_
  clear h hB0
  refine callsIn_of_wp_marks Try.func20 rfl trivial ?_ rfl
  simp only [Try.ntmps20, List.size_toArray, List.length_cons, List.length_nil, Nat.reduceAdd, Nat.reduceSub, Array.replicate_succ, Array.replicate_zero, List.push_toArray, List.append_toArray, List.nil_append, List.cons_append]
  gi_wp2_with (refine ⟨trivial, ?_⟩; gi_at_call 23; refine (callsIn_wide.2 HO.out).mono ?_; rintro e w1 ⟨Bs, ao, cap, rfl, hBs, hbox, hints, hb1⟩)
  obtain ⟨W0, hW0⟩ : ∃ W0, W0 = (w.alloc (.cells #[.int .i64 c] 3)).alloc (.cells #[.slice none 0 0] 25) := ⟨_, rfl⟩
  have hsz : W0.heap.size = w.heap.size + 2 := by rw [hW0]; simp
  have bN0 : Boxed W0 w.heap.size 3 (.int .i64 c) := by rw [hW0]; exact (Boxed.new w _ _).alloc _
  have bL0 : Boxed W0 (w.heap.size + 1) 25 (.slice none 0 0) := by
    rw [hW0]
    have := Boxed.new (w.alloc (.cells #[.int .i64 c] 3)) 25 (.slice none 0 0)
    rwa [World.size_alloc] at this
  have hB0 := HB0.out
  rw [← hW0] at hBs hb1 hB0
  have bN : Boxed w1 w.heap.size 3 (.int .i64 c) := (hb1.block _ bN0.lt).trans bN0
  have bL : Boxed w1 (w.heap.size + 1) 25 (.slice none 0 0) := (hb1.block _ bL0.lt).trans bL0
  have hw1 := hb1.size
  have hB1 : Below w.heap.size w w1 := hB0.trans (hb1.mono (by omega))
  have hund := hints.under hB1
  clear hints hb1 hB0 bN0 bL0 HB0 HO
  refine wpIn_rangeFunc_ownG rfl (by omega) (gf := 36) (lb := #[.pointer (some ⟨Bs, 0, none⟩)]) rfl trivial (enters_of Try.func36 (by kernel_rfl) rfl)
    (citer_stops Fence.wide (5 - 1) trivial rfl (by omega) Bs w.heap.size cap ao (Cs.outZ n es x) hzl w1 (by omega) hbox hund) kpW_t (kpW_b (by omega) hbox.lt) (Below.refl _ _) (fun _ => rfl)
    (fun pre W => (∃ u, Boxed W (w.heap.size + 1) 25 u ∧ W.ownsRow w1.heap.size 3 1 u pre.length (pre.map (Value.int .i64)) ∧ True) ∧ (Boxed W w.heap.size 3 (.int .i64 c) ∧ Boxed W Bs 25 (.slice ao (Cs.outZ n es x).length cap)) ∧ (Below w.heap.size w W ∧ w1.heap.size ≤ W.heap.size) ∧ (pre = [] ∨ (pre.length : Int) ≤ c))
    (fun k pre W => k = .exit 0 ∧ (∃ u, Boxed W (w.heap.size + 1) 25 u ∧ W.ownsRow w1.heap.size 3 1 u pre.length (pre.map (Value.int .i64)) ∧ True) ∧ Below w.heap.size w W ∧ pre.length = c.toNat + 1)
    ?own ?ownx ?start
    (fun z => { tmps := #[v, .int .i64 x, .int .i64 c, undef, undef, .pointer (some ⟨w.heap.size, 0, none⟩), .slice none 0 0, .bool false, .pointer (some ⟨w.heap.size + 1, 0, none⟩), .func (.func 36) #[] #[.pointer (some ⟨Bs, 0, none⟩)], .int .i64 z, v, .int .i64 x, .func (.func 36) #[] #[.pointer (some ⟨Bs, 0, none⟩)],
      .func (.func 36) #[] #[.pointer (some ⟨Bs, 0, none⟩)], .bool false, undef, .func (.func 36) #[] #[.pointer (some ⟨Bs, 0, none⟩)], .int .i64 z, undef, undef, undef, undef, undef, undef, undef, undef, undef], defers := [] }) ?assign ?body ?done ?stop
  case own =>
    rintro pre W W' row ⟨h1, ⟨h2, h3⟩, ⟨h4, h5⟩, h6⟩ hg hr
    refine ⟨holdsRow_own w1.heap.size (w.heap.size + 1) 25 3 1 (fun pre : List Int => pre.length) (fun pre => pre.map (Value.int .i64)) (fun _ _ => True) pre W W' row h1 hg (fun r e => (hr r e).2), ⟨h2.kept hg (fun e => ?_), h3.kept hg (fun e => ?_)⟩, ⟨h4.grown hg h4.size (fun k e => ?_), Nat.le_trans h5 hg.size⟩, h6⟩
    · have := (hr _ e.symm).1; omega
    · have := (hr _ e.symm).1; have := hbox.lt; omega
    · have := (hr _ e).1; omega
  case ownx =>
    rintro k pre W W' row ⟨h0, h1, h4, h6⟩ hg hr
    refine ⟨h0, holdsRow_own w1.heap.size (w.heap.size + 1) 25 3 1 (fun pre : List Int => pre.length) (fun pre => pre.map (Value.int .i64)) (fun _ _ => True) pre W W' row h1 hg (fun r e => (hr r e).2), h4.grown hg h4.size (fun k e => ?_), h6⟩
    have := (hr _ e).1; omega
  case start =>
    exact ⟨⟨_, bL, World.ownsRow_nil _ _ _ _, trivial⟩, ⟨bN, hbox⟩, ⟨hB1, Nat.le_refl _⟩, .inl rfl⟩
  case assign =>
    intro l z W K hK
    gi_wp2
    exact hK
  case body =>
    rintro l pre z W ⟨⟨u, hu, hrow, _⟩, ⟨hnb, hbs⟩, ⟨hB, hs1⟩, hpre⟩ hlt
    have hc := hu.cell
    have hBsl := hbox.lt
    by_cases hgt : c < (pre.length : Int) + 1
    · gi_wp2_with (gi_at_builtin; refine wpListIn_append_own _ rfl _ _ 25 rfl w1.heap.size 3 i0 (.int .i64 0) 1 8 Try.underlying25 hi hz0 hz1 hz2 rfl (by decide) _ _ _ rfl (hrow.alloc _) ⟨W.heap.size, 0, none⟩ 1 1 [.int .i64 z] rfl rfl (cell_one_new _ _ _) (by simp [Value.oneCell']) (by unfold maxLen; omega) (by omega) (by simp; omega) ?_; intro v' w2 hown' hgrow _; obtain ⟨g', cap', rfl⟩ := ownsRow_succ hown'; obtain ⟨hv1, hv2, hr2, hk2, hsz2, hbl2, hb2⟩ := boxed_gathered hu (by decide) hrow (by omega) hown' hgrow; have hc1 := hv1.cell; have hf1 := hv1.frozen; have hc2 := hv2.cell; have hn2 := Boxed.cell ((hbl2 w.heap.size (by omega) (by omega)).trans hnb))
      exact ⟨hk2.from _, rfl, ⟨_, hv2, by simpa using hr2, trivial⟩, hB.trans (hb2 _ (by omega) (by omega)), by
        rw [List.length_append, List.length_singleton]
        rcases hpre with rfl | hp
        · simp at hgt ⊢; omega
        · omega⟩
    · gi_wp2_with (gi_at_builtin; refine wpListIn_append_own _ rfl _ _ 25 rfl w1.heap.size 3 i0 (.int .i64 0) 1 8 Try.underlying25 hi hz0 hz1 hz2 rfl (by decide) _ _ _ rfl (hrow.alloc _) ⟨W.heap.size, 0, none⟩ 1 1 [.int .i64 z] rfl rfl (cell_one_new _ _ _) (by simp [Value.oneCell']) (by unfold maxLen; omega) (by omega) (by simp; omega) ?_; intro v' w2 hown' hgrow _; obtain ⟨g', cap', rfl⟩ := ownsRow_succ hown'; obtain ⟨hv1, hv2, hr2, hk2, hsz2, hbl2, hb2⟩ := boxed_gathered hu (by decide) hrow (by omega) hown' hgrow; have hc1 := hv1.cell; have hf1 := hv1.frozen; have hc2 := hv2.cell; have hn2 := Boxed.cell ((hbl2 w.heap.size (by omega) (by omega)).trans hnb))
      exact ⟨hk2.from _, ⟨hb2 _ (by omega) (by omega), hbl2 _ hBsl (by omega)⟩, ⟨_, hv2, by simpa using hr2⟩, ⟨(hbl2 w.heap.size (by omega) (by omega)).trans hnb, (hbl2 _ hBsl (by omega)).trans hbs⟩, ⟨hB.trans (hb2 _ (by omega) (by omega)), Nat.le_trans hs1 hsz2⟩, .inr (by rw [List.length_append, List.length_singleton]; omega)⟩
  case done =>
    rintro D ys W hD rfl ⟨⟨u, hu, hrow, _⟩, _, ⟨hB, hs1⟩, hpre⟩ hK
    have hc := hu.cell
    have hend : OwnZ W w.heap.size u ((Cs.outZ n es x).take (c.toNat + 1)) := by
      have e : (Cs.outZ n es x).take (c.toNat + 1) = Cs.outZ n es x := List.take_of_length_le (by rcases hpre with h | h; rw [h]; simp; omega)
      rw [e]
      exact ownsRow_base hrow (by omega)
    gi_wp2
    refine ⟨by simp, .inl ⟨_, _, rfl, run_takeDeferred hK, ?_⟩⟩
    exact ⟨_, results_tmp2 rfl _ _ _, u, rfl, ownsRow_putObj hend _ hK rfl, hB.trans (belowK_b (w := w) (Nat.le_refl _) W D _ _ (by omega) hK rfl rfl)⟩
  case stop =>
    rintro D k pre W hD hpfx ⟨rfl, ⟨u, hu, hrow, _⟩, hB, hpl⟩ hK
    have hc := hu.cell
    have hend : OwnZ W w.heap.size u ((Cs.outZ n es x).take (c.toNat + 1)) := by
      rw [take_of_prefix hpfx hpl]
      exact ownsRow_base hrow (by omega)
    gi_wp2
    refine ⟨by simp, .inl ⟨_, _, rfl, run_takeDeferred hK, ?_⟩⟩
    exact ⟨_, results_tmp2 rfl _ _ _, u, rfl, ownsRow_putObj hend _ hK rfl, hB.trans (belowK_b (w := w) (Nat.le_refl _) W D _ _ (by omega) hK rfl rfl)⟩

end Go.Proofs.Ytlnkcebfnamdcaa
