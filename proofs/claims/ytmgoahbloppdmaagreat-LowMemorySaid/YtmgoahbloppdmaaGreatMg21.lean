import Derived.Test.YtmgoahbloppdmaaGreatMg20
import Derived.Test.YtmgoahbloppdmaaGreatMg11
/-
  lows, from its loops on.
-/
namespace Go.Proofs.YtmgoahbloppdmaaGreat
open Go.RowKit Go.Shelf

attribute [local go_sem] Oper.semAt_some

/-- What follows on the right of n 'seq's. -/
def spine8 : Nat → Code → Code
  | 0, c => c
  | n + 1, .seq _ d => spine8 n d
  | _, c => c

/-- Of the edges that are walked from the places from j on both are told. -/
def DoneAt (n : Nat) (es : List (Int × Int)) (s : Df.St) (j : Nat) (A1 A2 : List Int) : Prop := ∀ k, k < es.length → ∀ a, a < n → Df.at_ s.ord a = (Lo.fr es s k : Int) → j ≤ a → A1.getD k 0 = Lo.low es s k ∧ A2.getD k 0 = Lo.low2 es s k

theorem getD_set {l : List Int} {k j : Nat} {x : Int} (hk : k < l.length) : (l.set k x).getD j 0 = if j = k then x else l.getD j 0 := by
  rw [List.getD_eq_getElem?_getD, List.getElem?_set]
  by_cases h : k = j
  · subst h
    rw [if_pos rfl, if_pos hk, if_pos rfl]
    rfl
  · rw [if_neg h, if_neg (fun e => h e.symm), List.getD_eq_getElem?_getD]

theorem own_ints2 {β : Type} (B g1 g2 : Nat) (P : β → List Int → List Int → Prop) : OwnFrom B (fun (b : β) X => ∃ A1 A2, IntsBlk X g1 A1 ∧ IntsBlk X g2 A2 ∧ P b A1 A2) := fun b X Y row ⟨A1, A2, h1, h2, h3⟩ hg hr => by
  have far : ∀ {g : Nat} {l : List Int}, IntsBlk X g l → IntsBlk Y g l := fun {g l} h => by
    refine (hg.block g (lt_of_block h) (fun e => ?_)).trans h
    obtain ⟨_, o, ho, hc⟩ := hr g e.symm
    rw [show X.heap[g]? = _ from h] at ho
    cases ho
    cases hc
  exact ⟨A1, A2, far h1, far h2, h3⟩

theorem kf_below {B : Nat} {A X : World} (h : Below A.heap.size A X) : KeepsFrom B A X := ⟨h.size, fun k _ _ h0 _ => (h.block k (Array.getElem?_eq_some_iff.1 h0).1).trans h0⟩

/-- What the operations of a round give. -/
def lwVal (p Lb g1 g2 m h k : Nat) (q : Int × Int) : Nat → Value
  | 0 => .pointer (some ⟨Lb, 0, none⟩)
  | 1 => .slice (some ⟨g1, 0, none⟩) m m
  | 2 => .int .i64 (h : Int)
  | 3 => .int .i64 (k : Int)
  | 4 => .pointer (some ⟨Lb, 1, none⟩)
  | 5 => .slice (some ⟨g2, 0, none⟩) m m
  | 6 => .int .i64 (h : Int)
  | 7 => .int .i64 (k : Int)
  | 8 => .pointer (some ⟨p, 0, none⟩)
  | 9 => .int .i64 (h : Int)
  | 10 => .agg #[.slice (some ⟨g1, 0, none⟩) m m, .slice (some ⟨g2, 0, none⟩) m m, .slice none 0 0, .slice none 0 0]
  | 11 => .tuple #[.int .i64 q.1, .int .i64 q.2]
  | 12 => .tuple #[.int .i64 q.1, .int .i64 q.2]
  | 13 => .int .i64 q.1
  | 14 => .int .i64 q.2
  | 15 => .pointer (some ⟨g1, k, none⟩)
  | 17 => .pointer (some ⟨g2, k, none⟩)
  | _ => undef

/-- What lies in memory by which have come up. -/
def lwC (g1 g2 k : Nat) (q : Int × Int) (A1 A2 : List Int) (A : World) (L : Nat → Bool) (X : World) : Prop :=
  Wrote (fun b => b = g1 ∨ b = g2) A X ∧ IntsBlk X g1 (if L 16 = true then A1.set k q.1 else A1) ∧ IntsBlk X g2 (if L 18 = true then A2.set k q.2 else A2)
theorem lwC.other {g1 g2 k : Nat} {q : Int × Int} {A1 A2 : List Int} {A X : World} {L : Nat → Bool} (h : lwC g1 g2 k q A1 A2 A L X) {i : Nat} (h1 : i ≠ 16) (h2 : i ≠ 18) : lwC g1 g2 k q A1 A2 A (AnyOrd.updB L i) X := by
  have e1 : AnyOrd.updB L i 16 = L 16 := if_neg (fun e => h1 e.symm)
  have e2 : AnyOrd.updB L i 18 = L 18 := if_neg (fun e => h2 e.symm)
  unfold lwC at h ⊢
  rw [e1, e2]
  exact h

section
variable {p : Nat} {av : Value} {n : Nat} {es : List (Int × Int)} {f : For} {s : Df.St}

theorem drew_blk {V : World} {k : Nat} {o : Obj} (h : V.heap[k]? = some o) : V.drew.heap[k]? = some o := h
theorem IntsBlk.drew {V : World} {g : Nat} {l : List Int} (h : IntsBlk V g l) : IntsBlk V.drew g l := h
theorem heap_keep {V : World} {k : Nat} {o o' : Obj} (hk : k < V.heap.size) (h : V.heap[k]? = some o') : (V.alloc o).heap[k]? = some o' := (Below.heap_alloc V o k hk).trans h

/-- What lies ahead of the loops. -/
structure LowsAt (w V : World) (p m Bw R Lb g1 g2 : Nat) : Prop where
  bel : Below w.heap.size w V
  bw : Boxed V Bw 54 (.pointer (some ⟨p, 0, none⟩))
  res : V.heap[R]? = some (.cells #[.slice none 0 0, .slice none 0 0, .slice none 0 0, .slice none 0 0] 31 (0, 0))
  lb : V.heap[Lb]? = some (.cells #[.slice (some ⟨g1, 0, none⟩) m m, .slice (some ⟨g2, 0, none⟩) m m, .slice none 0 0, .slice none 0 0] 31 (0, 0))
  i1 : IntsBlk V g1 (List.replicate m 0)
  i2 : IntsBlk V g2 (List.replicate m 0)
  lo : w.heap.size ≤ Bw ∧ w.heap.size ≤ R ∧ w.heap.size ≤ Lb ∧ w.heap.size ≤ g1 ∧ w.heap.size ≤ g2
  ne : g1 ≠ g2 ∧ Bw ≠ g1 ∧ Bw ≠ g2 ∧ R ≠ g1 ∧ R ≠ g2 ∧ Lb ≠ g1 ∧ Lb ≠ g2 ∧ R ≠ Lb

def LowsPost (es : List (Int × Int)) (s : Df.St) (w : World) (e : Ending) (w' : World) : Prop :=
  ∃ g1 g2, e = .returned (.agg #[.slice (some ⟨g1, 0, none⟩) es.length es.length, .slice (some ⟨g2, 0, none⟩) es.length es.length, .slice none 0 0, .slice none 0 0]) ∧ IntsBlk w' g1 (upTo (Lo.low es s) es.length) ∧ IntsBlk w' g2 (upTo (Lo.low2 es s) es.length) ∧
    w.heap.size ≤ g1 ∧ w.heap.size ≤ g2 ∧ g1 ≠ g2 ∧ Below w.heap.size w w'

set_option maxRecDepth 100000 in
set_option maxHeartbeats 16000000 in
theorem lows_rest (w V : World) (Bw R Lb g1 g2 : Nat) (y7 y8 y9 y10 y11 y13 y14 y15 y16 y17 y19 : Value) (hd : Wd w p av n es f s) (h : LowsAt w V p es.length Bw R Lb g1 g2) :
    Code.wp Tryz.prog (spine8 2 (Tryz.f20.body.getD .skip)) (bodyPostM Fence.wide 13 Tryz.prog Tryz.f20 (LowsPost es s w))
      { tmps := #[.pointer (some ⟨p, 0, none⟩), .pointer (some ⟨Bw, 0, none⟩), .pointer (some ⟨R, 0, none⟩), .pointer (some ⟨Lb, 0, none⟩), undef, undef, undef, y7, y8, y9, y10, y11, .slice (some ⟨g1, 0, none⟩) es.length es.length, y13, y14, y15, y16, y17, .slice (some ⟨g2, 0, none⟩) es.length es.length, y19,
        undef, undef, undef, undef, undef, undef, undef, undef, undef, undef, undef, undef, undef, undef, undef, undef, undef, undef, undef, undef, undef, undef, undef, undef, undef, undef, undef, undef, undef, undef], defers := [] } V := by
  have hfew := hd.val.few
  have hn := hd.val.hi
  have hWd := hd.later h.bel
  obtain ⟨lo1, lo2, lo3, lo4, lo5⟩ := h.lo
  obtain ⟨ne1, ne2, ne3, ne4, ne5, ne6, ne7, ne8⟩ := h.ne
  have c1 := h.bw.cell
  have c3 := hWd.c3
  have HBK : Hid (∀ X, Calls Tryz.prog 34 #[.slice f.a3 n f.c3] X (BackPost f.a3 n f.c3 X)) := fun X => backward_any _ _ _ X
  have HWD := Nu.hid hWd
  clear hWd
  obtain ⟨QQ, hQQ⟩ : ∃ QQ, (bodyPostM Fence.wide 13 Tryz.prog Tryz.f20 (LowsPost es s w)) = QQ := ⟨_, rfl⟩
  rw [hQQ]
  have HQQ := Nu.hid hQQ
  clear hQQ
  simp only [Tryz.f20, Option.getD, spine8]
  go_wp2_with (go_at_call 34; refine (HBK.out _).mono ?_; rintro e V1 ⟨Bs, rfl, hBs, bs, hb1⟩)
  refine (wpIn_wide (n := 13)).1 ?_
  have hB1 : Below w.heap.size w V1 := h.bel.trans (hb1.mono h.bel.size)
  have hs1 := hb1.size
  have hsw := h.bel.size
  have l1 := lt_of_block h.i1
  have l2 := lt_of_block h.i2
  have l3 := lt_of_block h.lb
  have l4 := lt_of_block h.res
  have bw1 : Boxed V1 Bw 54 (.pointer (some ⟨p, 0, none⟩)) := (hb1.block _ h.bw.lt).trans h.bw
  have lb1 := (hb1.block _ l3).trans h.lb
  have rs1 := (hb1.block _ l4).trans h.res
  have j1 : IntsBlk V1 g1 (List.replicate es.length 0) := (hb1.block _ l1).trans h.i1
  have j2 : IntsBlk V1 g2 (List.replicate es.length 0) := (hb1.block _ l2).trans h.i2
  have hcs : ∀ i, i < n → ∃ b o, f.a3 = some ⟨b, o, none⟩ ∧ ∀ X, Below w.heap.size V1 X → X.cell? ⟨b, o + i, none⟩ = some (.int .i64 (Df.at_ s.ord i)) := fun i hi => by
    obtain ⟨b, o, e, hc⟩ := hd.ord hi
    exact ⟨b, o, e, fun X hX => hc X (hB1.trans hX) i hi⟩
  refine it_out (n := 13) (gf := 57) (lb := #[.pointer (some ⟨Bs, 0, none⟩)]) (by rfl) (enters_of Tryz.func57 (by kernel_rfl) rfl)
    (back_it Bs w.heap.size f.c3 n (fun b => b = g1 ∨ b = g2) f.a3 s.ord (by omega) V1 (by omega) bs hcs (by omega)) (by omega) (fun _ => rfl)
    (fun pre X => (∃ A1 A2, IntsBlk X g1 A1 ∧ IntsBlk X g2 A2 ∧ A1.length = es.length ∧ A2.length = es.length ∧ DoneAt n es s (n - pre.length) A1 A2) ∧ Kep w.heap.size (fun b => b = g1 ∨ b = g2) V1 X) (fun _ _ _ => False)
    (OwnFrom.and (own_ints2 _ g1 g2 (fun (pre : List Nat) A1 A2 => A1.length = es.length ∧ A2.length = es.length ∧ DoneAt n es s (n - pre.length) A1 A2)) (Kep.own (by omega) (by omega))) (fun _ _ _ _ _ hs _ _ => hs)
    ⟨⟨_, _, j1, j2, by simp, by simp, fun k _ a ha _ hja => by simp at hja; omega⟩, Kep.refl _ _ _⟩
    (fun x a' _ => a' = { tmps := #[.pointer (some ⟨p, 0, none⟩), .pointer (some ⟨Bw, 0, none⟩), .pointer (some ⟨R, 0, none⟩), .pointer (some ⟨Lb, 0, none⟩), undef, .int .i64 (Df.at_ s.ord x), undef, y7, y8, y9, y10, y11, .slice (some ⟨g1, 0, none⟩) es.length es.length, y13, y14, y15, y16, y17, .slice (some ⟨g2, 0, none⟩) es.length es.length, y19,
      .pointer (some ⟨p, 0, none⟩), .pointer (some ⟨p, 0, none⟩), .pointer (some ⟨p, 1, none⟩), .pointer (some ⟨p, 3, none⟩), .slice f.a3 n f.c3, .func (.func 57) #[] #[.pointer (some ⟨Bs, 0, none⟩)], .int .i64 (x : Int), .int .i64 (Df.at_ s.ord x), undef, undef, undef, undef, undef, undef, undef, undef, undef, undef, undef, undef, undef, undef, undef, undef, undef, undef, undef, undef, undef, undef], defers := [] })
    (fun x a' => ownFrom_pure _ _) ?assign ?body ?done ?stop
  case assign =>
    intro l pre x X K _ hi hK
    gi_wp2
    exact hK _ _ (KeepsFrom.refl _ _) (Kep.refl _ _ _) hi rfl
  case body =>
    rintro l pre x a' A ⟨hl, -⟩ ⟨r, hr⟩ hpx ⟨⟨A1, A2, i1, i2, q1, q2, hdone⟩, hkp⟩ rfl
    obtain ⟨hpl, hxe⟩ := downs_pre hpx
    have hxn : x < n := by omega
    obtain ⟨v, hv⟩ : ∃ v : Nat, Df.at_ s.ord x = (v : Int) := ⟨(Df.at_ s.ord x).toNat, by have := (hd.vf.once x hxn).1; omega⟩
    have hvn : v < n := by have := (hd.vf.once x hxn).1; omega
    rw [hv]
    have HFR : Hid (∀ X, Calls Tryz.prog 35 #[.pointer (some ⟨p, 0, none⟩), .int .i64 (v : Int)] X (FromPost p (v : Int) X)) := fun X => wfrom_any p _ X
    have cw := (hkp.boxed bw1 (by omega)).cell
    have hAs : V1.heap.size ≤ A.heap.size := hkp.1.size
    have HRR : Hid (A.heap[l]? = some (.loop r)) := hr
    have HDN : Hid (DoneAt n es s (x + 1) A1 A2) := by
      have e : n - pre.length = x + 1 := by omega
      rw [e] at hdone
      exact hdone
    have HKP := Nu.hid hkp
    have HI1 := Nu.hid i1
    have HI2 := Nu.hid i2
    have HXE : Hid (n - (pre ++ [x]).length = x) := by show _ = _; simp; omega
    clear hkp i1 i2 hdone hr hpx hxe
    gi_wp2_with (refine ⟨trivial, ?_⟩; gi_at_call 35; refine (CallsIn.inRound l (callsIn_wide.2 (HFR.out _))).mono ?_; rintro e A' ⟨Bx, Bv, rfl, hBx, hBv, bx, bv, hbA⟩)
    have hAA := hbA.size
    have hbA1 : Below w.heap.size w A := hB1.trans HKP.out.1
    have hbA2 : Below w.heap.size w A' := hbA1.trans (hbA.mono hbA1.size)
    have hrl : l < A.heap.size := lt_of_block HRR.out
    refine it_in (n := 13 - 1 - 1) (l₀ := l) (r₀ := r) ((hbA.block l hrl).trans HRR.out) (gf := 58) (lb := #[.pointer (some ⟨Bx, 0, none⟩), .pointer (some ⟨Bv, 0, none⟩)]) (by rfl) (enters_of Tryz.func58 (by kernel_rfl) rfl)
      (from_it v Bx Bv (fun b => b = g1 ∨ b = g2) w A' hd hbA2 hvn bx bv (by omega) (fun b hb => .inl (by rcases hb with rfl | rfl <;> omega))) hbA2.size (fun _ => rfl)
      (fun pre' X => (∃ A1 A2, IntsBlk X g1 A1 ∧ IntsBlk X g2 A2 ∧ A1.length = es.length ∧ A2.length = es.length ∧ DoneAt n es s (x + 1) A1 A2 ∧ ∀ k, k < es.length → (Lo.oh s k : Int) ∈ pre' → A1.getD k 0 = Lo.low es s k ∧ A2.getD k 0 = Lo.low2 es s k) ∧ (Kep w.heap.size (fun b => b = g1 ∨ b = g2) A X ∧ KeepsFrom V1.heap.size A X)) (fun _ _ _ => False)
      (OwnFrom.and (own_ints2 _ g1 g2 (fun (pre' : List Int) A1 A2 => A1.length = es.length ∧ A2.length = es.length ∧ DoneAt n es s (x + 1) A1 A2 ∧ ∀ k, k < es.length → (Lo.oh s k : Int) ∈ pre' → A1.getD k 0 = Lo.low es s k ∧ A2.getD k 0 = Lo.low2 es s k)) (OwnFrom.and (Kep.own (by omega) (by omega)) (ownFrom_keepsFrom hAA))) (fun _ _ _ _ _ hs _ _ => hs)
      ⟨⟨A1, A2, HI1.out.later hbA, HI2.out.later hbA, q1, q2, HDN.out, fun k _ hk => by simp at hk⟩, (Kep.refl _ _ _).grow hbA (by omega), kf_below hbA⟩
      (fun y a' _ => a'.tmps.size = 50 ∧ a'.eval (.tmp 1) = .pointer (some ⟨Bw, 0, none⟩) ∧ a'.eval (.tmp 3) = .pointer (some ⟨Lb, 0, none⟩) ∧ a'.eval (.tmp 6) = .int .i64 y)
      (fun y a' => ownFrom_pure _ _) ?assign2 ?body2 ?done2 ?stop2
    case assign2 =>
      intro l2 pre' y X K _ hi hK
      gi_wp2
      exact hK _ _ (KeepsFrom.refl _ _) (Kep.refl _ _ _) hi ⟨rfl, rfl, rfl, rfl⟩
    case body2 =>
      rintro l2 pre' y a' C ⟨hl2, -⟩ _ hpy ⟨⟨E1, E2, e1, e2, m1, m2, hdn, hpr⟩, hkc, hkf⟩ ⟨asz, a1, a3, a6⟩
      obtain ⟨k, hk, hfk, rfl⟩ := (Lo.mem_frL hd.vf hvn).1 (hpy.subset (List.mem_append_right pre' (List.mem_singleton.2 rfl)))
      obtain ⟨ho1, ho2, ho3, ho4⟩ := Lo.oh_of hd.vf hk
      have hlead : Lo.lead n es s E1 E2 (Lo.oh s k) = (Lo.low es s k, Lo.low2 es s k) := Lo.lead_low hd.val hd.vf hk fun htr k' hk' hf' => by
        have hg := (Lo.ends_lt hd.val hd.vf hk).2
        obtain ⟨b, hb, eb⟩ := Df.Once.onto hd.vf.once hg
        refine hdn k' hk' b hb (by rw [hf']; exact eb) ?_
        exact Lo.tree_place hd.val hd.vf hk htr hxn hb (by rw [hv, hfk]) eb
      have hbC : Below w.heap.size w C := hbA1.trans hkc.1
      have hCs : A.heap.size ≤ C.heap.size := hkc.1.size
      have bwC := hkc.boxed (HKP.out.boxed bw1 (by omega)) (by omega)
      have lbC : C.heap[Lb]? = some (.cells #[.slice (some ⟨g1, 0, none⟩) es.length es.length, .slice (some ⟨g2, 0, none⟩) es.length es.length, .slice none 0 0, .slice none 0 0] 31 (0, 0)) := hkc.2 _ _ (HKP.out.2 _ _ lb1 rfl (by omega)) rfl (by omega)
      have lC := lt_of_block lbC
      have gC1 := e1.lt
      have gC2 := e2.lt
      obtain ⟨hh, hhe⟩ : ∃ hh, Lo.oh s k = hh := ⟨_, rfl⟩
      rw [hhe] at ho3 ho4 a6 hlead
      have htd : (hh : Int).tdiv 2 = (k : Int) := by rw [Int.tdiv_eq_ediv_of_nonneg (by omega)]; omega
      have k0 : (0 : Int) ≤ (k : Int) := by omega
      have k1 : (k : Int) < (es.length : Int) := by omega
      obtain ⟨z1, hz1⟩ : ∃ z, E1[k]? = some z := ⟨_, List.getElem?_eq_getElem (by omega)⟩
      obtain ⟨z2, hz2⟩ : ∃ z, E2[k]? = some z := ⟨_, List.getElem?_eq_getElem (by omega)⟩
      gi_wp2
      refine wpIn_region_any (by kernel_rfl) ?_
      refine AnyOrd.anyL (lwVal p Lb g1 g2 es.length hh k (Lo.low es s k, Lo.low2 es s k)) (lwC g1 g2 k (Lo.low es s k, Lo.low2 es s k) E1 E2 C) 50 asz (by kernel_rfl) (by kernel_rfl) ⟨(Wrote.refl _ _).drew, e1, e2⟩ ?_ ?_
      · intro i o L X ev ho hLi hC haft hdc he1 he2 hec hef
        have hW := hC.1
        have kb := Boxed.cell ((hW.block Bw bwC.lt (by omega)).trans bwC)
        have hlX := (hW.block Lb lC (by omega)).trans lbC
        have r0 : X.cell? ⟨Lb, 0, none⟩ = some (.slice (some ⟨g1, 0, none⟩) es.length es.length) := by simp [World.cell?, hlX]
        have r1 : X.cell? ⟨Lb, 1, none⟩ = some (.slice (some ⟨g2, 0, none⟩) es.length es.length) := by simp [World.cell?, hlX]
        have r2 : X.cell? ⟨Lb, 2, none⟩ = some (.slice none 0 0) := by simp [World.cell?, hlX]
        have r3 : X.cell? ⟨Lb, 3, none⟩ = some (.slice none 0 0) := by simp [World.cell?, hlX]
        have hc : i = 0 ∨ i = 1 ∨ i = 2 ∨ i = 3 ∨ i = 4 ∨ i = 5 ∨ i = 6 ∨ i = 7 ∨ i = 8 ∨ i = 9 ∨ i = 10 ∨ i = 11 ∨ i = 12 ∨ i = 13 ∨ i = 14 ∨ i = 15 ∨ i = 16 ∨ i = 17 ∨ i = 18 := by
          have : i < 19 := (Array.getElem?_eq_some_iff.1 ho).1
          omega
        rcases hc with rfl | rfl | rfl | rfl | rfl | rfl | rfl | rfl | rfl | rfl | rfl | rfl | rfl | rfl | rfl | rfl | rfl | rfl | rfl <;> obtain rfl := Option.some.inj ho
        · have u1 := (he2 3 (by kernel_rfl)).trans a3
          exact AnyOrd.gives_value (w' := X) (by simp [execOp, go_sem, u1]; rfl) ⟨rfl, hC.other (by decide) (by decide)⟩
        · have u1 : ev (.tmp 33) = .pointer (some ⟨Lb, 0, none⟩) := he1 0 33 (by omega) rfl (by decide)
          exact AnyOrd.gives_value (w' := X) (by simp [execOp, go_sem, u1, r0]; rfl) ⟨rfl, hC.other (by decide) (by decide)⟩
        · have u1 := (he2 6 (by kernel_rfl)).trans a6
          exact AnyOrd.gives_value (w' := X) (by simp [execOp, go_sem, u1]; rfl) ⟨rfl, hC.other (by decide) (by decide)⟩
        · have u1 : ev (.tmp 35) = .int .i64 (hh : Int) := he1 2 35 (by omega) rfl (by decide)
          exact AnyOrd.gives_value (v := .int .i64 (k : Int)) (w' := X) (by simp [execOp, go_sem, u1, htd, hec]; exact wrap_few k (by omega)) ⟨rfl, hC.other (by decide) (by decide)⟩
        · have u1 := (he2 3 (by kernel_rfl)).trans a3
          exact AnyOrd.gives_value (w' := X) (by simp [execOp, go_sem, u1]; rfl) ⟨rfl, hC.other (by decide) (by decide)⟩
        · have u1 : ev (.tmp 37) = .pointer (some ⟨Lb, 1, none⟩) := he1 4 37 (by omega) rfl (by decide)
          exact AnyOrd.gives_value (w' := X) (by simp [execOp, go_sem, u1, r1]; rfl) ⟨rfl, hC.other (by decide) (by decide)⟩
        · have u1 := (he2 6 (by kernel_rfl)).trans a6
          exact AnyOrd.gives_value (w' := X) (by simp [execOp, go_sem, u1]; rfl) ⟨rfl, hC.other (by decide) (by decide)⟩
        · have u1 : ev (.tmp 39) = .int .i64 (hh : Int) := he1 6 39 (by omega) rfl (by decide)
          exact AnyOrd.gives_value (v := .int .i64 (k : Int)) (w' := X) (by simp [execOp, go_sem, u1, htd, hec]; exact wrap_few k (by omega)) ⟨rfl, hC.other (by decide) (by decide)⟩
        · have u1 := (he2 1 (by kernel_rfl)).trans a1
          exact AnyOrd.gives_value (w' := X) (by simp [execOp, go_sem, u1, kb]; rfl) ⟨rfl, hC.other (by decide) (by decide)⟩
        · have u1 := (he2 6 (by kernel_rfl)).trans a6
          exact AnyOrd.gives_value (w' := X) (by simp [execOp, go_sem, u1]; rfl) ⟨rfl, hC.other (by decide) (by decide)⟩
        · have u1 := (he2 3 (by kernel_rfl)).trans a3
          exact AnyOrd.gives_value (w' := X) (by simp [execOp, go_sem, u1, r0, r1, r2, r3]; rfl) ⟨rfl, hC.other (by decide) (by decide)⟩
        · have u1 : ev (.tmp 41) = .pointer (some ⟨p, 0, none⟩) := he1 8 41 (by omega) rfl (by decide)
          have u2 : ev (.tmp 42) = .int .i64 (hh : Int) := he1 9 42 (by omega) rfl (by decide)
          have u3 : ev (.tmp 43) = .agg #[.slice (some ⟨g1, 0, none⟩) es.length es.length, .slice (some ⟨g2, 0, none⟩) es.length es.length, .slice none 0 0, .slice none 0 0] := he1 10 43 (by omega) rfl (by decide)
          have h16 : L 16 = false := by
            cases h : L 16 with
            | false => rfl
            | true =>
              have := hdc 16 _ rfl h ⟨11, .phase⟩ (by simp) rfl
              rw [hLi] at this
              cases this
          have h18 : L 18 = false := by
            cases h : L 18 with
            | false => rfl
            | true =>
              have := hdc 18 _ rfl h ⟨11, .phase⟩ (by simp) rfl
              rw [hLi] at this
              cases this
          obtain ⟨-, f1, f2⟩ := hC
          rw [h16, if_neg (by decide)] at f1
          rw [h18, if_neg (by decide)] at f2
          have hbX : Below w.heap.size w X := hbC.trans (hW.below hbC.size (fun b hb => by rcases hb with rfl | rfl <;> omega))
          have hen : ∀ args w, (callFunc 36 args).run Tryz.prog w = .ok (.enter 36 args) w := enters_of Tryz.func36 (by kernel_rfl) rfl
          have hrun : ∀ o : Oper, o.op = .call { callee := .value (.func 36), args := #[.tmp 41, .tmp 42, .tmp 43], argTypes := #[54, 3, 31] } → (execOp ev o).run Tryz.prog X = .ok (.enter 36 #[.pointer (some ⟨p, 0, none⟩), .int .i64 (hh : Int), .agg #[.slice (some ⟨g1, 0, none⟩) es.length es.length, .slice (some ⟨g2, 0, none⟩) es.length es.length, .slice none 0 0, .slice none 0 0]]) X := fun o ho => by
            simp [execOp, ho, go_sem, u1, u2, u3, hen, hef]
          unfold AnyOrd.Gives
          rw [hrun _ rfl]
          refine (leads_any hh g1 g2 E1 E2 X (hd.later hbX) ho3 f1.ins f2.ins m1 m2).mono fun e X' hk' => ⟨_, hk'.1, ?_, ?_⟩
          · rw [hlead]
            rfl
          · refine ⟨hW.later hk'.2, ?_, ?_⟩
            · rw [show AnyOrd.updB L 11 16 = false from h16, if_neg (by decide)]
              exact f1.later hk'.2
            · rw [show AnyOrd.updB L 11 18 = false from h18, if_neg (by decide)]
              exact f2.later hk'.2
        · have u1 : ev (.tmp 44) = .tuple #[.int .i64 (Lo.low es s k), .int .i64 (Lo.low2 es s k)] := he1 11 44 (by omega) rfl (by decide)
          exact AnyOrd.gives_value (w' := X) (by simp [execOp, go_sem, u1]; rfl) ⟨rfl, hC.other (by decide) (by decide)⟩
        · have u1 : ev (.tmp 32) = .tuple #[.int .i64 (Lo.low es s k), .int .i64 (Lo.low2 es s k)] := he1 12 32 (by omega) rfl (by decide)
          exact AnyOrd.gives_value (w' := X) (by simp [execOp, go_sem, u1]; rfl) ⟨rfl, hC.other (by decide) (by decide)⟩
        · have u1 : ev (.tmp 32) = .tuple #[.int .i64 (Lo.low es s k), .int .i64 (Lo.low2 es s k)] := he1 12 32 (by omega) rfl (by decide)
          exact AnyOrd.gives_value (w' := X) (by simp [execOp, go_sem, u1]; rfl) ⟨rfl, hC.other (by decide) (by decide)⟩
        · have u1 : ev (.tmp 34) = .slice (some ⟨g1, 0, none⟩) es.length es.length := he1 1 34 (by omega) rfl (by decide)
          have u2 : ev (.tmp 36) = .int .i64 (k : Int) := he1 3 36 (by omega) rfl (by decide)
          exact AnyOrd.gives_value (v := .pointer (some ⟨g1, k, none⟩)) (w' := X) (by simp [execOp, go_sem, u1, u2, k0, k1]) ⟨rfl, hC.other (by decide) (by decide)⟩
        · have u1 : ev (.tmp 47) = .pointer (some ⟨g1, k, none⟩) := he1 15 47 (by omega) rfl (by decide)
          have u2 : ev (.tmp 45) = .int .i64 (Lo.low es s k) := he1 13 45 (by omega) rfl (by decide)
          obtain ⟨-, f1, f2⟩ := hC
          rw [hLi, if_neg (by decide)] at f1
          have x1 := f1.cell hz1
          have x2 := f1.free k
          refine AnyOrd.gives_skip (w' := X.setCell ⟨g1, k, none⟩ (.int .i64 (Lo.low es s k))) (by simp [execOp, go_sem, u1, u2, x1, x2]) ⟨rfl, hW.setCell (.inl rfl) _, ?_, ?_⟩
          · rw [show AnyOrd.updB L 16 16 = true from rfl, if_pos rfl]
            exact f1.set k _
          · rw [show AnyOrd.updB L 16 18 = L 18 from rfl]
            exact f2.set_far (fun e => ne1 e.symm) _
        · have u1 : ev (.tmp 38) = .slice (some ⟨g2, 0, none⟩) es.length es.length := he1 5 38 (by omega) rfl (by decide)
          have u2 : ev (.tmp 40) = .int .i64 (k : Int) := he1 7 40 (by omega) rfl (by decide)
          exact AnyOrd.gives_value (v := .pointer (some ⟨g2, k, none⟩)) (w' := X) (by simp [execOp, go_sem, u1, u2, k0, k1]) ⟨rfl, hC.other (by decide) (by decide)⟩
        · have u1 : ev (.tmp 48) = .pointer (some ⟨g2, k, none⟩) := he1 17 48 (by omega) rfl (by decide)
          have u2 : ev (.tmp 46) = .int .i64 (Lo.low2 es s k) := he1 14 46 (by omega) rfl (by decide)
          obtain ⟨-, f1, f2⟩ := hC
          rw [hLi, if_neg (by decide)] at f2
          have x1 := f2.cell hz2
          have x2 := f2.free k
          refine AnyOrd.gives_skip (w' := X.setCell ⟨g2, k, none⟩ (.int .i64 (Lo.low2 es s k))) (by simp [execOp, go_sem, u1, u2, x1, x2]) ⟨rfl, hW.setCell (.inr rfl) _, ?_, ?_⟩
          · rw [show AnyOrd.updB L 18 16 = L 16 from rfl]
            exact f1.set_far ne1 _
          · rw [show AnyOrd.updB L 18 18 = true from rfl, if_pos rfl]
            exact f2.set k _
      · intro L X a4 hall hC
        obtain ⟨hw, f1, f2⟩ := hC
        rw [if_pos (hall 16 (by decide))] at f1
        rw [if_pos (hall 18 (by decide))] at f2
        have hkk := wrote_kep (n₀ := w.heap.size) hw (by omega) (fun b hb => by rcases hb with rfl | rfl <;> omega)
        have hR : ∀ k', (k' = k ∨ (E1.getD k' 0 = Lo.low es s k' ∧ E2.getD k' 0 = Lo.low2 es s k')) → (E1.set k (Lo.low es s k)).getD k' 0 = Lo.low es s k' ∧ (E2.set k (Lo.low2 es s k)).getD k' 0 = Lo.low2 es s k' := fun k' hk' => by
          rw [getD_set (by omega), getD_set (by omega)]
          by_cases e : k' = k
          · subst e
            rw [if_pos rfl, if_pos rfl]
            exact ⟨rfl, rfl⟩
          · rw [if_neg e, if_neg e]
            exact hk'.resolve_left e
        refine ⟨wrote_keeps hw (fun b hb => by rcases hb with rfl | rfl <;> omega), hkk, ⟨_, _, f1, f2, by simpa using m1, by simpa using m2, fun k' hk' a ha hfa hja => hR k' (.inr (hdn k' hk' a ha hfa hja)), fun k' hk' hm => hR k' ?_⟩, hkc.trans hkk, hkf.trans (wrote_keeps hw (fun b hb => by rcases hb with rfl | rfl <;> omega))⟩
        rcases List.mem_append.1 hm with h1 | h1
        · exact .inr (hpr k' hk' h1)
        · left
          have h2 : Lo.oh s k' = Lo.oh s k := by
            have := List.mem_singleton.1 h1
            rw [hhe]
            omega
          have h3 := (Lo.oh_of hd.vf hk').2.2.2
          rw [h2, hhe] at h3
          omega
    case done2 =>
      rintro X ⟨⟨E1, E2, e1, e2, m1, m2, hdn, hpr⟩, hkc, hkf⟩
      gi_wp2
      refine ⟨hkf, hkc, ⟨E1, E2, e1, e2, m1, m2, ?_⟩, HKP.out.trans hkc⟩
      rw [HXE.out]
      intro k hk a ha hfa hja
      by_cases e : a = x
      · subst e
        refine hpr k hk ((Lo.mem_frL hd.vf hvn).2 ⟨k, hk, ?_, rfl⟩)
        rw [hv] at hfa
        omega
      · exact hdn k hk a ha hfa (by omega)
    case stop2 =>
      rintro c pre' X _ hx
      exact hx.elim
  case done =>
    rintro D X hD ⟨⟨A1, A2, i1, i2, q1, q2, hdone⟩, hkp⟩ hK
    have hX1 : X.heap[Lb]? = some (.cells #[.slice (some ⟨g1, 0, none⟩) es.length es.length, .slice (some ⟨g2, 0, none⟩) es.length es.length, .slice none 0 0, .slice none 0 0] 31 (0, 0)) := hkp.2 _ _ lb1 rfl (by omega)
    have hX2 : X.heap[R]? = some (.cells #[.slice none 0 0, .slice none 0 0, .slice none 0 0, .slice none 0 0] 31 (0, 0)) := hkp.2 _ _ rs1 rfl (by omega)
    obtain ⟨x0, x1, x2, x3, -⟩ := four_cells hX1
    obtain ⟨z0, z1, z2, z3, z4⟩ := four_cells hX2
    have hbX : Below w.heap.size w X := hB1.trans hkp.1
    have hall : ∀ k, k < es.length → A1.getD k 0 = Lo.low es s k ∧ A2.getD k 0 = Lo.low2 es s k := fun k hk => by
      obtain ⟨a, ha, ea⟩ := Df.Once.onto hd.vf.once (Lo.ends_lt hd.val hd.vf hk).1
      exact hdone k hk a ha ea (by rw [downs_len]; omega)
    have hA1 : A1 = upTo (Lo.low es s) es.length := by
      refine List.ext_getElem? fun k => ?_
      by_cases hk : k < es.length
      · rw [upTo_at hk, List.getElem?_eq_getElem (by omega)]
        have := (hall k hk).1
        rw [List.getD_eq_getElem?_getD, List.getElem?_eq_getElem (by omega)] at this
        exact congrArg some this
      · rw [List.getElem?_eq_none (by omega), List.getElem?_eq_none (by rw [upTo_len]; omega)]
    have hA2 : A2 = upTo (Lo.low2 es s) es.length := by
      refine List.ext_getElem? fun k => ?_
      by_cases hk : k < es.length
      · rw [upTo_at hk, List.getElem?_eq_getElem (by omega)]
        have := (hall k hk).2
        rw [List.getD_eq_getElem?_getD, List.getElem?_eq_getElem (by omega)] at this
        exact congrArg some this
      · rw [List.getElem?_eq_none (by omega), List.getElem?_eq_none (by rw [upTo_len]; omega)]
    subst hA1
    subst hA2
    have HI1 := Nu.hid i1
    have HI2 := Nu.hid i2
    have HBX := Nu.hid hbX
    have HX2 := Nu.hid hX2
    have HK := Nu.hid hK
    clear i1 i2 hall hdone hkp hX1 hX2 hbX
    go_wp2
    rw [← HQQ.out]
    obtain ⟨Y, hY⟩ : ∃ Y, Y = put4 X R (.slice (some ⟨g1, 0, none⟩) es.length es.length) (.slice (some ⟨g2, 0, none⟩) es.length es.length) (.slice none 0 0) (.slice none 0 0) := ⟨_, rfl⟩
    have hYR : Y.heap[R]? = some (.cells #[.slice (some ⟨g1, 0, none⟩) es.length es.length, .slice (some ⟨g2, 0, none⟩) es.length es.length, .slice none 0 0, .slice none 0 0] 31 (0, 0)) := by rw [hY]; exact put4_heap HX2.out _ _ _ _
    have hYo : ∀ b, b ≠ R → Y.heap[b]? = X.heap[b]? := fun b hb => by rw [hY]; exact put4_other hb _ _ _ _
    have hYb : Below w.heap.size w Y := by rw [hY]; exact below_put4 HBX.out lo2 _ _ _ _
    have hKY : Y.heap[D]? = some (.deferred (some [])) := (hYo D (by omega)).trans HK.out
    unfold put4 at hY
    rw [← hY]
    have hYR2 : (Y.putObj D (.deferred none)).heap[R]? = some (.cells #[.slice (some ⟨g1, 0, none⟩) es.length es.length, .slice (some ⟨g2, 0, none⟩) es.length es.length, .slice none 0 0, .slice none 0 0] 31 (0, 0)) := (World.putObj_heap_other (by omega)).trans hYR
    obtain ⟨v0, v1, v2, v3, -⟩ := four_cells hYR2
    refine ⟨by simp, .inl ⟨_, _, rfl, run_takeDeferred hKY, ?_⟩⟩
    refine ⟨.agg #[.slice (some ⟨g1, 0, none⟩) es.length es.length, .slice (some ⟨g2, 0, none⟩) es.length es.length, .slice none 0 0, .slice none 0 0], ?_, g1, g2, rfl, ?_, ?_, lo4, lo5, ne1, ?_⟩
    · simp [results, Tryz.results20, go_sem, v0, v1, v2, v3]
    · exact (World.putObj_heap_other (by omega)).trans ((hYo g1 (fun e => ne4 e.symm)).trans HI1.out)
    · exact (World.putObj_heap_other (by omega)).trans ((hYo g2 (fun e => ne5 e.symm)).trans HI2.out)
    · exact hYb.trans (belowK_b (w := w) (Nat.le_refl _) Y D _ _ (by omega) hKY rfl rfl)
  case stop =>
    rintro D c pre X _ _ hx _
    exact hx.elim
end

end Go.Proofs.YtmgoahbloppdmaaGreat
