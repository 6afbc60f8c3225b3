import Derived.Test.YtjlfdkeklilafabMg14
import Derived.Test.YtjlfdkeklilafabMg02
import Derived.Test.YtjlfdkeklilafabMg03
import Derived.Test.YtjlfdkeklilafabMg11
/-
  The finder: it tells half-edges by the vertices to which they lead.
-/
namespace Go.Proofs.Ytjlfdkeklilafab
open Go.RowKit Go.Sort

/-- Block p is a finder of the graph: its lists at gf, ga, gl; all laid since block B. -/
structure FiAt (w : World) (B p gf ga gl n : Nat) (ao : Option Addr) (ca : Nat) (es : List (Int × Int)) (F An D : List Int) : Prop where
  blk : w.heap[p]? = some (.cells #[.int .i64 (n : Int), .slice ao es.length ca, .slice (some ⟨gf, 0, none⟩) n n, .slice (some ⟨ga, 0, none⟩) (2 * es.length) (2 * es.length), .slice (some ⟨gl, 0, none⟩) n n] 79 (0, 0))
  first : IntsBlk w gf F
  another : IntsBlk w ga An
  leading : IntsBlk w gl D
  lo : B ≤ p ∧ B ≤ gf ∧ B ≤ ga ∧ B ≤ gl
  ne : p ≠ gf ∧ p ≠ ga ∧ p ≠ gl ∧ gf ≠ ga ∧ gf ≠ gl ∧ ga ≠ gl

section
variable {w w' : World} {B p gf ga gl n : Nat} {ao : Option Addr} {ca : Nat} {es : List (Int × Int)} {F An D : List Int}
theorem FiAt.later (h : FiAt w B p gf ga gl n ao ca es F An D) (hb : Below w.heap.size w w') : FiAt w' B p gf ga gl n ao ca es F An D :=
  ⟨(hb.block p (lt_of_block h.blk)).trans h.blk, h.first.later hb, h.another.later hb, h.leading.later hb, h.lo, h.ne⟩
theorem FiAt.keep (h : FiAt w B p gf ga gl n ao ca es F An D) (hb : ∀ b, b = p ∨ b = gf ∨ b = ga ∨ b = gl → w'.heap[b]? = w.heap[b]?) : FiAt w' B p gf ga gl n ao ca es F An D :=
  ⟨(hb p (.inl rfl)).trans h.blk, (hb gf (.inr (.inl rfl))).trans h.first, (hb ga (.inr (.inr (.inl rfl)))).trans h.another, (hb gl (.inr (.inr (.inr rfl)))).trans h.leading, h.lo, h.ne⟩
theorem FiAt.setF (h : FiAt w B p gf ga gl n ao ca es F An D) (j : Nat) (x : Int) : FiAt (w.setCell ⟨gf, j, none⟩ (.int .i64 x)) B p gf ga gl n ao ca es (F.set j x) An D :=
  ⟨(blk_same h.ne.1 _).trans h.blk, h.first.set j x, h.another.set_far (Ne.symm h.ne.2.2.2.1) _, h.leading.set_far (Ne.symm h.ne.2.2.2.2.1) _, h.lo, h.ne⟩
theorem FiAt.setA (h : FiAt w B p gf ga gl n ao ca es F An D) (j : Nat) (x : Int) : FiAt (w.setCell ⟨ga, j, none⟩ (.int .i64 x)) B p gf ga gl n ao ca es F (An.set j x) D :=
  ⟨(blk_same h.ne.2.1 _).trans h.blk, h.first.set_far h.ne.2.2.2.1 _, h.another.set j x, h.leading.set_far (Ne.symm h.ne.2.2.2.2.2) _, h.lo, h.ne⟩
theorem FiAt.setL (h : FiAt w B p gf ga gl n ao ca es F An D) (j : Nat) (x : Int) : FiAt (w.setCell ⟨gl, j, none⟩ (.int .i64 x)) B p gf ga gl n ao ca es F An (D.set j x) :=
  ⟨(blk_same h.ne.2.2.1 _).trans h.blk, h.first.set_far h.ne.2.2.2.2.1 _, h.another.set_far h.ne.2.2.2.2.2 _, h.leading.set j x, h.lo, h.ne⟩
theorem five_cells {R : Nat} {t : TypeId} {a b c d e : Value} (h : w.heap[R]? = some (.cells #[a, b, c, d, e] t (0, 0))) : w.cell? ⟨R, 0, none⟩ = some a ∧ w.cell? ⟨R, 1, none⟩ = some b ∧ w.cell? ⟨R, 2, none⟩ = some c ∧ w.cell? ⟨R, 3, none⟩ = some d ∧ w.cell? ⟨R, 4, none⟩ = some e := by
  refine ⟨?_, ?_, ?_, ?_, ?_⟩ <;> simp [World.cell?, h]
end

set_option maxRecDepth 100000 in
set_option maxHeartbeats 4000000 in
theorem fto_any (B p gf ga gl n : Nat) (ao : Option Addr) (ca : Nat) (es : List (Int × Int)) (F An D : List Int) (x : Int) (w : World) (hf : FiAt w B p gf ga gl n ao ca es F An D) (hD : D.length = n) :
    Calls Try.prog 37 #[.pointer (some ⟨p, 0, none⟩), .int .i64 x] w fun e w' => e = .returned (.int .i64 (Ro.toF n D x)) ∧ w' = w := by
  obtain ⟨c0, c1, c2, c3, c4⟩ := five_cells hf.blk
  have HF := Nu.hid hf
  have HD := Nu.hid hD
  clear hf hD
  by_cases h0 : 0 ≤ x
  · by_cases h1 : x < (n : Int)
    · obtain ⟨y, rfl⟩ : ∃ y : Nat, x = (y : Int) := ⟨x.toNat, by omega⟩
      obtain ⟨z, hz⟩ : ∃ z, D[y]? = some z := ⟨_, List.getElem?_eq_getElem (by have := HD.out; omega)⟩
      have cz := HF.out.leading.cell hz
      have he : Ro.toF n D (y : Int) = z := by
        unfold Ro.toF
        rw [if_pos ⟨h0, h1⟩, Int.toNat_natCast, List.getD_eq_getElem?_getD, hz]
        rfl
      rw [he]
      have j1 : ¬ (y : Int) < 0 := by omega
      have j2 : ¬ (n : Int) ≤ (y : Int) := by omega
      clear he hz
      go_enter Try.func37, Try.ntmps37
      go_wp2
      go_ret
      exact ⟨rfl, rfl⟩
    · have he : Ro.toF n D x = -1 := by
        unfold Ro.toF
        rw [if_neg (by omega)]
      rw [he]
      have j1 : ¬ x < 0 := by omega
      have j2 : (n : Int) ≤ x := by omega
      clear he
      go_enter Try.func37, Try.ntmps37
      go_wp2
      go_ret
      exact ⟨rfl, rfl⟩
  · have he : Ro.toF n D x = -1 := by
      unfold Ro.toF
      rw [if_neg (by omega)]
    rw [he]
    have j1 : x < 0 := by omega
    clear he
    go_enter Try.func37, Try.ntmps37
    go_wp2
    go_ret
    exact ⟨rfl, rfl⟩

/-- What at reads while it tells: the finder's fields. -/
structure FS (V w0 : World) (p gl n : Nat) (ao : Option Addr) (m ca : Nat) : Prop where
  n0 : V.cell? ⟨p, 0, none⟩ = some (.int .i64 (n : Int))
  e0 : V.cell? ⟨p, 1, none⟩ = some (.slice ao m ca)
  l0 : V.cell? ⟨p, 4, none⟩ = some (.slice (some ⟨gl, 0, none⟩) n n)
  far : p ≠ gl ∧ w0.heap.size ≤ gl
  low : Below w0.heap.size w0 V

theorem FS.later {V V' w0 : World} {p gl n m ca : Nat} {ao : Option Addr} (h : FS V w0 p gl n ao m ca) (hb : Below V.heap.size V V') : FS V' w0 p gl n ao m ca :=
  ⟨(hb.cell (p := ⟨p, 0, none⟩) (block_lt_of_cell h.n0)).trans h.n0, (hb.cell (p := ⟨p, 1, none⟩) (block_lt_of_cell h.e0)).trans h.e0, (hb.cell (p := ⟨p, 4, none⟩) (block_lt_of_cell h.l0)).trans h.l0, h.far, h.low.trans (hb.mono h.low.size)⟩
theorem FS.store {V w0 : World} {p gl n m ca : Nat} {ao : Option Addr} (h : FS V w0 p gl n ao m ca) (i : Nat) (x : Value) : FS (V.setCell ⟨gl, i, none⟩ x) w0 p gl n ao m ca := by
  have h1 := h.far.1
  exact ⟨(World.cell?_setCell_other _ _ _ _ (fun e => by simp only [Addr.mk.injEq] at e; omega)).trans h.n0, (World.cell?_setCell_other _ _ _ _ (fun e => by simp only [Addr.mk.injEq] at e; omega)).trans h.e0, (World.cell?_setCell_other _ _ _ _ (fun e => by simp only [Addr.mk.injEq] at e; omega)).trans h.l0, h.far, h.low.trans (below_setCell (g := gl) _ h.far.2)⟩

theorem frozen_later' {V V' : World} {g i : Nat} (hb : Below V.heap.size V V') (hg : g < V.heap.size) : V'.frozen? ⟨g, i, none⟩ = V.frozen? ⟨g, i, none⟩ := by
  unfold World.frozen?
  rw [hb.block g hg]

def FatPost (B p gf ga gl n : Nat) (ao : Option Addr) (ca : Nat) (es : List (Int × Int)) (F An : List Int) (v : Nat) (w : World) (e : Ending) (w' : World) : Prop :=
  e = .returned (.tuple #[]) ∧ Wrote (fun b => b = gl) w w' ∧ ∃ D, FiAt w' B p gf ga gl n ao ca es F An D ∧ Ro.Ld n es v 0 D

set_option maxRecDepth 100000 in
set_option maxHeartbeats 8000000 in
theorem fat_any (B p gf ga gl n : Nat) (ao : Option Addr) (ca : Nat) (es : List (Int × Int)) (F An D : List Int) (v : Nat) (w0 w : World) (hf : FiAt w B p gf ga gl n ao ca es F An D) (hfi : Ro.Fi n es F An (2 * es.length)) (hld : Ro.Ld n es v (2 * es.length) D) (he : EdgesAt w0 ao es) (hB : B = w0.heap.size) (hb0 : Below B w0 w) (hv : Si.Val n es) (hvn : v < n) :
    Calls Try.prog 36 #[.pointer (some ⟨p, 0, none⟩), .int .i64 (v : Int)] w (FatPost B p gf ga gl n ao ca es F An v w) := by
  obtain ⟨c0, c1, c2, c3, c4⟩ := five_cells hf.blk
  have cf := hf.first.cell (hfi.first v hvn)
  have hvn2 : (v : Int) < (n : Int) := by omega
  have hfew := hv.few
  have hBl := hf.lo.2.2.2
  have HF := Nu.hid hf
  have HFI := Nu.hid hfi
  have HLD := Nu.hid hld
  have HE := Nu.hid he
  have HB0 := Nu.hid hb0
  have HBE := Nu.hid hB
  have HV := Nu.hid hv
  obtain ⟨L0, hL0⟩ : ∃ L0, L0 = Ro.lo es v (2 * es.length) := ⟨_, rfl⟩
  rw [← hL0] at cf
  have HL0 := Nu.hid hL0
  clear hf hfi hld he hb0 hB hv hL0
  go_enter Try.func36, Try.ntmps36
  go_wp2
  clear c0 c1 c2 c3 c4 cf
  go_loopw [4] (fun c wr => ∃ (k : Nat) (D : List Int), k ≤ 2 * es.length ∧ c = .int .i64 (Ro.lo es v k) ∧ Ro.Ld n es v k D ∧ FiAt wr B p gf ga gl n ao ca es F An D ∧ Wrote (fun b => b = gl) w wr) (fun c _ => (intOf c + 1).toNat)
  case atStart => exact ⟨2 * es.length, D, Nat.le_refl _, by rw [HL0.out], HLD.out, HF.out, Wrote.refl _ _⟩
  case round =>
    clear HF HLD
    obtain ⟨k, D, hk, rfl, hld, hf, hb⟩ := hrel
    have HLD := Nu.hid hld
    have HF := Nu.hid hf
    have HB := Nu.hid hb
    obtain ⟨c0, c1, c2, c3, c4⟩ := five_cells hf.blk
    clear hld hf hb
    rcases Ro.lo_spec es v k with ⟨h1, h2⟩ | ⟨h, h1, h2, h3, h4⟩
    · rw [h1]
      have HD := Nu.hid (HLD.out.done h2)
      clear h1 h2
      go_wp2
      go_end0
      exact ⟨rfl, HB.out, D, HF.out, HD.out⟩
    · rw [h1]
      have hh : h < 2 * es.length := by omega
      have t1 : ((h : Int) != -1) = true := by first | (simp; done) | (simp; omega)
      have HLT := Nu.hid (fun V (hV : Below w0.heap.size w0 V) => leadsTo_any n ao ca es h V (HE.out.later hV) HV.out hh)
      have htn := (Cs.half_lt HV.out hh).2
      have HP := Nu.hid (HLD.out.put HV.out hk h2 h3 h4)
      have H3 := Nu.hid h3
      obtain ⟨y, hy⟩ : ∃ y, D[Cs.to es h]? = some y := ⟨_, List.getElem?_eq_getElem (by rw [HLD.out.len]; exact htn)⟩
      have HY := Nu.hid (HF.out.leading.cell hy)
      have hBw := HB0.out.trans (HB.out.below (by rw [HBE.out]; exact HB0.out.size) (fun q hq => by rw [hq]; exact hBl))
      rw [HBE.out] at hBw
      have HBW := Nu.hid hBw
      obtain ⟨t, ht⟩ : ∃ t, t = Cs.to es h := ⟨_, rfl⟩
      rw [← ht] at HLT htn HP HY
      have htn2 : (t : Int) < (n : Int) := by omega
      have hh2 : (h : Int) < 2 * (es.length : Int) := by omega
      have HAS : Hid (FS wr.drew w0 p gl n ao es.length ca) := FS.later (V := wr) ⟨c0, c1, c4, ⟨HF.out.ne.2.2.1, by rw [← HBE.out]; exact hBl⟩, HBW.out⟩ (Below.refl _ _).drew
      have HS : Hid (∀ V, FS V w0 p gl n ao es.length ca → V.cell? ⟨p, 0, none⟩ = some (.int .i64 (n : Int)) ∧ V.cell? ⟨p, 1, none⟩ = some (.slice ao es.length ca) ∧ V.cell? ⟨p, 4, none⟩ = some (.slice (some ⟨gl, 0, none⟩) n n) ∧ FS V w0 p gl n ao es.length ca) := fun V hV => ⟨hV.n0, hV.e0, hV.l0, hV⟩
      have HFR := Nu.hid (HF.out.leading.free t)
      clear h1 h3 h4 hy hBw ht c0 c1 c2 c3 c4
      go_wp2_with fail
      go_region_held3 (fun V => V.cell? ⟨p, 0, none⟩ = some (.int .i64 (n : Int)) ∧ V.cell? ⟨p, 1, none⟩ = some (.slice ao es.length ca) ∧ V.cell? ⟨p, 4, none⟩ = some (.slice (some ⟨gl, 0, none⟩) n n) ∧ FS V w0 p gl n ao es.length ca)
        (first | exact HS.out _ (by first | assumption | exact HAS.out) | exact HS.out _ (FS.store (by first | assumption | exact HAS.out) _ _))
        ((go_at_call 24; refine (HLT.out _ HAS.out.low).mono ?_; rintro e V1 ⟨rfl, hb1⟩; have has1 := HAS.out.later hb1; have hy1 := (hb1.cell (p := ⟨gl, t, none⟩) (block_lt_of_cell HY.out)).trans HY.out; have hfr1 : V1.frozen? ⟨gl, t, none⟩ = false := (frozen_later' hb1 (block_lt_of_cell HY.out)).trans HFR.out))
      have hbV : Below wr.heap.size wr V1 := ((Below.refl wr.heap.size wr).drew).trans hb1
      have hF2 := (HF.out.later hbV).setL t (h : Int)
      obtain ⟨c0, c1, c2, c3, c4⟩ := five_cells hF2.blk
      have can := hF2.another.cell (HFI.out.another h hh)
      have HF2 := Nu.hid hF2
      have HB2 := Nu.hid ((HB.out.later hbV).setCell (b := gl) (i := t) rfl (.int .i64 (h : Int)))
      rw [H3.out] at can
      clear hbV hb1 has1 hy1 hfr1 hF2
      go_wp2
      go_roundw
      case rel => exact ⟨h, D.set t (h : Int), by omega, rfl, HP.out, HF2.out, HB2.out⟩
      case measure =>
        simp [intOf]
        rcases Ro.lo_spec es v h with ⟨q1, -⟩ | ⟨q, q1, q2, -⟩ <;> rw [q1] <;> omega

end Go.Proofs.Ytjlfdkeklilafab

/-
  A region that draws its order and whose first operations only make memory, calls of functions among them.
-/
namespace Go.Proofs.Ytjlfdkeklilafab
open Go.RowKit

namespace AnyOrd
/-- The law: every order of the first n gives what the specs say. -/
theorem anyF {P : Program} {ops : Array Oper} {Q : Exit → Act → World → Prop} {a0 : Act} {w0 : World} (sp : Nat → OpSpec) (n N : Nat) (hn : n ≤ ops.size) (hN : a0.tmps.size = N) (hsh : shape ops n (fun i => (sp i).deps) = true)
    (hstab : ∀ i, i < n → ∀ v vs lo hi w w', hi ≤ w.heap.size → Below w.heap.size w w' → (sp i).post v vs lo hi w → (sp i).post v vs lo hi w')
    (hstep : ∀ i o (ρ : Nat → Value) w (ev : Operand → Value), i < n → ops[i]? = some o → Below w0.heap.size w0 w → (∀ j ∈ (sp i).deps, ∃ lo hi, w0.heap.size ≤ lo ∧ lo ≤ hi ∧ hi ≤ w.heap.size ∧ (sp j).post (ρ j) ((sp j).deps.map ρ) lo hi w) →
      (∀ j t, j < i → dst ops j = some t → t < N → ev (.tmp t) = ρ j) → (∀ t, ((List.range i).all fun j => dst ops j != some t) = true → ev (.tmp t) = a0.eval (.tmp t)) → (∀ v, ev (.const v) = v) → (∀ f, ev (.func f) = .func (.func f) #[] #[]) →
      Gives P o ev w fun v w' => Below w.heap.size w w' ∧ (sp i).post v ((sp i).deps.map ρ) w.heap.size w'.heap.size w')
    (hend : ∀ (ρ : Nat → Value) (lo hi : Nat → Nat) w a, a = canon ops a0 ρ n → a.defers = a0.defers → (∀ j t, j < n → dst ops j = some t → t < N → a.eval (.tmp t) = ρ j) → (∀ t, ((List.range n).all fun j => dst ops j != some t) = true → a.eval (.tmp t) = a0.eval (.tmp t)) → Below w0.heap.size w0 w → (∀ i, i < n → w0.heap.size ≤ lo i ∧ lo i ≤ hi i ∧ hi i ≤ w.heap.size ∧ (sp i).post (ρ i) ((sp i).deps.map ρ) (lo i) (hi i) w) → (∀ i j, i < n → j < n → i ≠ j → hi i ≤ lo j ∨ hi j ≤ lo i) →
      wpAny P .any ops Q (ops.size - n) (heads ops.size n) a w) :
    wpAny P .any ops Q ops.size (Array.replicate ops.size false) a0 w0 := by
  have hs := fun i (hi : i < ops.size) => List.all_eq_true.1 hsh i (List.mem_range.2 hi)
  have hlt : ∀ {j t}, dst ops j = some t → j < ops.size := fun {j t} h => by
    rcases Nat.lt_or_ge j ops.size with h1 | h1
    · exact h1
    · unfold dst at h; rw [Array.getElem?_eq_none h1] at h; cases h
  have hone : ∀ i j t, i ≠ j → dst ops j = some t → dst ops i ≠ some t := fun i j t hij hj hi => by
    have h1 := hs j (hlt hj)
    dsimp only at h1
    cases ho : ops[j]? with
    | none => rw [ho] at h1; cases h1
    | some o =>
      have hd : o.dst = some t := by unfold dst at hj; rw [ho] at hj; exact hj
      rw [ho] at h1
      simp only [Bool.and_eq_true] at h1
      have h2 := h1.1
      rw [hd] at h2
      have h3 := List.all_eq_true.1 h2 i (List.mem_range.2 (hlt hi))
      simp only [Bool.or_eq_true, beq_iff_eq, bne_iff_ne] at h3
      rcases h3 with h3 | h3
      · exact hij h3
      · exact h3 hi
  have hop : ∀ i, i < n → ∃ o, ops[i]? = some o ∧ o.guard = none ∧ (∀ cs b, o.op ≠ .select cs b) ∧
      (∀ t, Operand.tmp t ∈ o.op.operands → ∀ j, j < ops.size → dst ops j = some t → j < i ∧ ∃ e ∈ o.after, Region.binds .any e = true ∧ e.on = j) ∧
      (∀ j ∈ (sp i).deps, j < i ∧ ∃ e ∈ o.after, Region.binds .any e = true ∧ e.on = j) ∧ (∀ e ∈ o.after, Region.binds .any e = true → e.on < i) := fun i hi => by
    have h1 := hs i (by omega)
    dsimp only at h1
    cases ho : ops[i]? with
    | none => rw [ho] at h1; cases h1
    | some o =>
      rw [ho] at h1
      simp only [Bool.and_eq_true, if_pos hi] at h1
      obtain ⟨_, ⟨⟨⟨g1, g2⟩, g4⟩, g5⟩, g6⟩ := h1
      refine ⟨o, rfl, by simpa using g1, (fun cs b hsel => by rw [hsel] at g2; cases g2), fun t ht j hj hd => ?_, fun j hj => ?_, fun e he hb => ?_⟩
      · have h2 := List.all_eq_true.1 g4 (.tmp t) (by simpa using ht)
        dsimp only at h2
        have h3 := List.all_eq_true.1 h2 j (List.mem_range.2 hj)
        simp only [Bool.or_eq_true, bne_iff_ne, Bool.and_eq_true, decide_eq_true_eq, List.any_eq_true, beq_iff_eq] at h3
        rcases h3 with h3 | ⟨h3, e, he, h4⟩
        · exact absurd hd h3
        · exact ⟨h3, e, by simpa using he, h4⟩
      · have h2 := List.all_eq_true.1 g5 j hj
        simp only [Bool.and_eq_true, decide_eq_true_eq, List.any_eq_true, beq_iff_eq] at h2
        obtain ⟨h3, e, he, h4⟩ := h2
        exact ⟨h3, e, by simpa using he, h4⟩
      · have h2 := Array.all_eq_true_iff_forall_mem.1 g6 e he
        rw [hb] at h2
        simpa using h2
  have hlate : ∀ i o, n ≤ i → ops[i]? = some o → ∀ j, j < n → ∃ e ∈ o.after, Region.binds .any e = true ∧ e.on = j := fun i o hi ho j hj => by
    have h1 := hs i (Array.getElem?_eq_some_iff.1 ho).1
    dsimp only at h1
    rw [ho] at h1
    simp only [Bool.and_eq_true, if_neg (Nat.not_lt.2 hi)] at h1
    have h2 := List.all_eq_true.1 h1.2 j (List.mem_range.2 hj)
    simp only [Bool.and_eq_true, List.any_eq_true, beq_iff_eq] at h2
    obtain ⟨e, he, h4⟩ := h2
    exact ⟨e, by simpa using he, h4⟩
  have fin : ∀ (listed : Array Bool), listed.size = ops.size → Region.ready .any ops listed = [] → ∀ i, i < n → listed.getD i false = true := by
    intro listed hl hr i
    induction i using Nat.strongRecOn with
    | _ i ih =>
      intro hi
      by_cases hb : listed.getD i false = true
      · exact hb
      · exfalso
        have hi' : i < listed.size := by omega
        have h0 : listed.getD i true = false := by
          simp [hi'] at hb ⊢
          exact hb
        obtain ⟨o, ho, _, _, _, _, hlow⟩ := hop i hi
        have hm : i ∈ Region.ready .any ops listed := by
          rw [mem_ready]
          refine ⟨h0, o, ho, fun e he hbd => ?_⟩
          have := hlow e he hbd
          exact ih e.on this (by omega)
        rw [hr] at hm
        cases hm
  have key : ∀ (fuel : Nat) (listed : Array Bool) (ρ : Nat → Value) (lo hi : Nat → Nat) (w : World), listed.size = ops.size → listed.toList.count false = fuel → Below w0.heap.size w0 w →
      (∀ i, n ≤ i → listed.getD i false = false) →
      (∀ i, i < n → listed.getD i false = true → w0.heap.size ≤ lo i ∧ lo i ≤ hi i ∧ hi i ≤ w.heap.size ∧ (sp i).post (ρ i) ((sp i).deps.map ρ) (lo i) (hi i) w ∧ ∀ j ∈ (sp i).deps, listed.getD j false = true) →
      (∀ i j, i < n → j < n → listed.getD i false = true → listed.getD j false = true → i ≠ j → hi i ≤ lo j ∨ hi j ≤ lo i) →
      wpAny P .any ops Q fuel listed (part ops a0 ρ (fun j => listed.getD j false) n) w := by
    have last : ∀ (listed : Array Bool) (ρ : Nat → Value) (lo hi : Nat → Nat) (w : World), listed.size = ops.size → Below w0.heap.size w0 w →
        (∀ i, n ≤ i → listed.getD i false = false) →
        (∀ i, i < n → listed.getD i false = true → w0.heap.size ≤ lo i ∧ lo i ≤ hi i ∧ hi i ≤ w.heap.size ∧ (sp i).post (ρ i) ((sp i).deps.map ρ) (lo i) (hi i) w ∧ ∀ j ∈ (sp i).deps, listed.getD j false = true) →
        (∀ i j, i < n → j < n → listed.getD i false = true → listed.getD j false = true → i ≠ j → hi i ≤ lo j ∨ hi j ≤ lo i) →
        (∀ i, i < n → listed.getD i false = true) → wpAny P .any ops Q (listed.toList.count false) listed (part ops a0 ρ (fun j => listed.getD j false) n) w := by
      intro listed ρ lo hi w hl hb hno hg hd hall
      have e : ∀ k, k ≤ n → part ops a0 ρ (fun j => listed.getD j false) k = canon ops a0 ρ k := by
        intro k
        induction k with
        | zero => exact fun _ => rfl
        | succ k ih =>
          intro hk
          unfold part canon
          rw [ih (by omega), hall k (by omega), if_pos rfl]
      have e2 : listed = heads ops.size n := by
        apply Array.ext
        · simp [heads, hl]; omega
        · intro i h1 h2
          by_cases hi : i < n
          · have := hall i hi
            simp [h1] at this
            rw [this]
            simp [heads, hi]
          · have := hno i (by omega)
            simp [h1] at this
            rw [this]
            simp [heads, List.getElem_append, hi]
      have e3 : (heads ops.size n).toList.count false = ops.size - n := by simp [heads, List.count_append, List.count_replicate]
      rw [e _ (Nat.le_refl _), e2, e3]
      exact hend ρ lo hi w _ rfl (canon_defers n) (fun j t hj hd ht => by
        rw [canon_part, part_at hd (fun i hi => hone i j t hi hd) rfl n hj, if_pos (by rw [hN]; exact ht)]) (fun t ht => by
        rw [canon_part, part_other n fun j hj _ => by
          have := List.all_eq_true.1 ht j (List.mem_range.2 hj)
          simpa using this]) hb (fun i hi => by
        obtain ⟨h1, h2, h3, h4, _⟩ := hg i hi (hall i hi)
        exact ⟨h1, h2, h3, h4⟩) fun i j hi hj => hd i j hi hj (hall i hi) (hall j hj)
    intro fuel
    induction fuel with
    | zero =>
      intro listed ρ lo hi w hl hc hb hno hg hd
      have hall : ∀ i, i < n → listed.getD i false = true := fun i hi => by
        have hm : ¬ false ∈ listed.toList := fun h => by
          have := List.count_pos_iff.2 h
          omega
        have hi' : i < listed.size := by omega
        by_cases hbi : listed[i] = true
        · simp [hi', hbi]
        · exfalso
          have e : listed[i] = false := by simpa using hbi
          exact hm (by rw [← e]; simp)
      have := last listed ρ lo hi w hl hb hno hg hd hall
      rw [hc] at this
      exact this
    | succ fuel ih =>
      intro listed ρ lo hi w hl hc hb hno hg hd
      by_cases hall : ∀ i, i < n → listed.getD i false = true
      · have := last listed ρ lo hi w hl hb hno hg hd hall
        rw [hc] at this
        exact this
      refine ⟨fun hr => absurd (fin listed hl hr) hall, fun i hi => ?_⟩
      have hi0 := hi
      rw [mem_ready] at hi
      obtain ⟨h0, o, ho, haft⟩ := hi
      have hin' := (Array.getElem?_eq_some_iff.1 ho).1
      have hin : i < n := by
        rcases Nat.lt_or_ge i n with h | h
        · exact h
        · exact absurd (fun j hj => by
            obtain ⟨e, he, hbd, rfl⟩ := hlate i o h ho j hj
            exact haft e he hbd) hall
      have hi' : i < listed.size := by omega
      obtain ⟨o', ho', hgd, hsel, hread, hdep, _⟩ := hop i hin
      rw [ho] at ho'
      cases ho'
      have hLi : listed.getD i false = false := by
        simp [hi'] at h0 ⊢
        exact h0
      have hdl : ∀ j ∈ (sp i).deps, listed.getD j false = true := fun j hj => by
        obtain ⟨_, e, he, hbd, rfl⟩ := hdep j hj
        exact haft e he hbd
      have hev : execOp (part ops a0 ρ (fun j => listed.getD j false) n).eval o = execOp (canon ops a0 ρ i).eval o := by
        refine execOp_congr o hsel fun x hx => ?_
        cases x with
        | tmp t =>
          refine part_canon (fun i j hij => hone i j t hij) (by omega) fun j hj hd => ?_
          obtain ⟨h1, e, he, hbd, rfl⟩ := hread t hx j (by omega) hd
          exact ⟨h1, haft e he hbd⟩
        | _ => rfl
      have hstp := hstep i o ρ w (canon ops a0 ρ i).eval hin ho hb (fun j hj => by
        have hjl := (hdep j hj).1
        obtain ⟨h1, h2, h3, h4, _⟩ := hg j (by omega) (hdl j hj)
        exact ⟨lo j, hi j, h1, h2, h3, h4⟩) (fun j t hj hd ht => by
        rw [canon_part, part_at hd (fun i hi => hone i j t hi hd) rfl i hj, if_pos (by rw [hN]; exact ht)]) (fun t ht => by
        rw [canon_part, part_other i fun j hj _ => by
          have := List.all_eq_true.1 ht j (List.mem_range.2 hj)
          simpa using this]) (fun v => rfl) (fun f => rfl)
      unfold wpOp
      rw [ho]
      dsimp only
      have hw : Region.wanted o (yielded ops (part ops a0 ρ (fun j => listed.getD j false) n).tmps) = true := by
        unfold Region.wanted
        rw [hgd]
      rw [if_pos hw]
      refine .inl ?_
      have hstp' : Gives P o (part ops a0 ρ (fun j => listed.getD j false) n).eval w fun v w' => Below w.heap.size w w' ∧ (sp i).post v ((sp i).deps.map ρ) w.heap.size w'.heap.size w' := by
        unfold Gives at hstp ⊢
        rw [hev]
        exact hstp
      refine hstp'.wp fun v w' hv => ?_
      obtain ⟨hbw, hpost⟩ := hv
      have hdst : o.dst = dst ops i := by unfold dst; rw [ho]; rfl
      have hgetD : ∀ j, (listed.setIfInBounds i true).getD j false = if j = i then true else listed.getD j false := fun j => by
        by_cases e : j = i
        · subst e
          rw [if_pos rfl]
          simp [hi']
        · rw [if_neg e]
          exact getD_set_ne false (fun h => e h.symm)
      rw [hdst, part_set hone hLi hin, part_congr (L' := fun j => (listed.setIfInBounds i true).getD j false) (ρ' := upd ρ i v) (fun j => (hgetD j).symm) (fun _ _ => rfl)]
      have hsz := hbw.size
      have hb0 := hb.size
      have hupd : ∀ j, j ≠ i → listed.getD j false = true → (∀ k ∈ (sp j).deps, listed.getD k false = true) → (sp j).deps.map (upd ρ i v) = (sp j).deps.map ρ := fun j hj hjl hk => by
        refine List.map_congr_left fun k hkm => ?_
        unfold upd
        rw [if_neg]
        intro e
        subst e
        rw [hk k hkm] at hLi
        cases hLi
      have hdi : (sp i).deps.map (upd ρ i v) = (sp i).deps.map ρ := List.map_congr_left fun k hkm => by
        unfold upd
        rw [if_neg]
        intro e
        subst e
        rw [hdl k hkm] at hLi
        cases hLi
      refine ih (listed.setIfInBounds i true) (upd ρ i v) (updN lo i w.heap.size) (updN hi i w'.heap.size) w' (by simpa using hl) ?_ (hb.trans (hbw.mono hb0)) (fun j hj => by rw [hgetD, if_neg (by omega)]; exact hno j hj) ?_ ?_
      · rw [Array.toList_setIfInBounds]
        have hi2 : i < listed.toList.length := by simpa using hi'
        have e : listed.toList[i] = false := by
          simp [hi'] at h0
          simpa using h0
        have hpos : 0 < listed.toList.count false := List.count_pos_iff.2 (by rw [← e]; exact List.getElem_mem hi2)
        rw [List.count_set hi2, e, if_pos (by decide), if_neg (by decide)]
        omega
      · intro j hj hjl
        rw [hgetD] at hjl
        by_cases e : j = i
        · subst e
          unfold updN
          rw [if_pos rfl, if_pos rfl]
          refine ⟨hb0, hsz, Nat.le_refl _, ?_, fun k hk => by rw [hgetD]; split; rfl; exact hdl k hk⟩
          rw [hdi]
          unfold upd
          rw [if_pos rfl]
          exact hpost
        · rw [if_neg e] at hjl
          obtain ⟨h1, h2, h3, h4, h5⟩ := hg j hj hjl
          unfold updN
          rw [if_neg e, if_neg e]
          refine ⟨h1, h2, by omega, ?_, fun k hk => by rw [hgetD]; split; rfl; exact h5 k hk⟩
          rw [hupd j e hjl h5]
          unfold upd
          rw [if_neg e]
          exact hstab j hj _ _ _ _ w w' h3 hbw h4
      · intro j k hj hk hjl hkl hjk
        rw [hgetD] at hjl hkl
        unfold updN
        by_cases e : j = i
        · subst e
          rw [if_neg (fun h => hjk h.symm)] at hkl
          rw [if_pos rfl, if_pos rfl, if_neg (fun h => hjk h.symm), if_neg (fun h => hjk h.symm)]
          exact .inr (hg k hk hkl).2.2.1
        · rw [if_neg e] at hjl
          by_cases e2 : k = i
          · subst e2
            rw [if_neg e, if_neg e, if_pos rfl, if_pos rfl]
            exact .inl (hg j hj hjl).2.2.1
          · rw [if_neg e2] at hkl
            rw [if_neg e, if_neg e, if_neg e2, if_neg e2]
            exact hd j k hj hk hjl hkl hjk
  have hnone : ∀ j, (Array.replicate ops.size false).getD j false = false := fun j => by by_cases hk : j < ops.size <;> simp [hk]
  have h0 : part ops a0 (fun _ => undef) (fun j => (Array.replicate ops.size false).getD j false) n = a0 := by
    have : ∀ k, part ops a0 (fun _ => undef) (fun j => (Array.replicate ops.size false).getD j false) k = a0 := by
      intro k
      induction k with
      | zero => rfl
      | succ k ih =>
        unfold part
        rw [ih, hnone k, if_neg (by decide)]
    exact this _
  have hk := key ops.size (Array.replicate ops.size false) (fun _ => undef) (fun _ => 0) (fun _ => 0) w0 (by simp) (by simp) (Below.refl _ _) (fun i _ => hnone i) (fun i _ h => by rw [hnone i] at h; cases h) (fun i _ _ _ h => by rw [hnone i] at h; cases h)
  rw [h0] at hk
  exact hk

end AnyOrd
end Go.Proofs.Ytjlfdkeklilafab
