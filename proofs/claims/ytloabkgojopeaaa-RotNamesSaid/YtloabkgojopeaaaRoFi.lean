/-
  The finder: it tells half-edges by the vertices to which they lead.
-/
import Derived.Test.YtloabkgojopeaaaRoG
import Derived.Test.YtloabkgojopeaaaMg02
import Derived.Test.YtloabkgojopeaaaRoMul
import Derived.Test.YtloabkgojopeaaaMg03
namespace Go.Proofs.Ytloabkgojopeaaa
open Go.RowKit Go.Sort

/-- Block p is a finder of the graph: its lists at gf, ga, gl; all laid since block B. -/
structure FiAt (w : World) (B p gf ga gl n : Nat) (ao : Option Addr) (ca : Nat) (es : List (Int × Int)) (F An D : List Int) : Prop where
  blk : w.heap[p]? = some (.cells #[.int .i64 (n : Int), .slice ao es.length ca, .slice (some ⟨gf, 0, none⟩) n n, .slice (some ⟨ga, 0, none⟩) (2 * es.length) (2 * es.length), .slice (some ⟨gl, 0, none⟩) n n] 84 (0, 0))
  first : IntsBlk w gf F
  another : IntsBlk w ga An
  leading : IntsBlk w gl D
  lo : B ≤ p ∧ B ≤ gf ∧ B ≤ ga ∧ B ≤ gl
  ne : p ≠ gf ∧ p ≠ ga ∧ p ≠ gl ∧ gf ≠ ga ∧ gf ≠ gl ∧ ga ≠ gl

section
variable {w w' : World} {B p gf ga gl n : Nat} {ao : Option Addr} {ca : Nat} {es : List (Int × Int)} {F An D : List Int}
theorem FiAt.later (h : FiAt w B p gf ga gl n ao ca es F An D) (hb : Below w.heap.size w w') : FiAt w' B p gf ga gl n ao ca es F An D :=
  ⟨(hb.block p (lt_of_block h.blk)).trans h.blk, h.first.later hb, h.another.later hb, h.leading.later hb, h.lo, h.ne⟩
theorem FiAt.keep (h : FiAt w B p gf ga gl n ao ca es F An D) (hb : ∀ b, b = p ∨ b = gf ∨ b = ga ∨ b = gl → w'.heap[b]? = w.heap[b]?) : FiAt w' B p gf ga gl n ao ca es F An D :=
  ⟨(hb p (.inl rfl)).trans h.blk, (hb gf (.inr (.inl rfl))).trans h.first, (hb ga (.inr (.inr (.inl rfl)))).trans h.another, (hb gl (.inr (.inr (.inr rfl)))).trans h.leading, h.lo, h.ne⟩
theorem FiAt.setF (h : FiAt w B p gf ga gl n ao ca es F An D) (j : Nat) (x : Int) : FiAt (w.setCell ⟨gf, j, none⟩ (.int .i64 x)) B p gf ga gl n ao ca es (F.set j x) An D :=
  ⟨(blk_same h.ne.1 _).trans h.blk, h.first.set j x, h.another.set_far (Ne.symm h.ne.2.2.2.1) _, h.leading.set_far (Ne.symm h.ne.2.2.2.2.1) _, h.lo, h.ne⟩
theorem FiAt.setA (h : FiAt w B p gf ga gl n ao ca es F An D) (j : Nat) (x : Int) : FiAt (w.setCell ⟨ga, j, none⟩ (.int .i64 x)) B p gf ga gl n ao ca es F (An.set j x) D :=
  ⟨(blk_same h.ne.2.1 _).trans h.blk, h.first.set_far h.ne.2.2.2.1 _, h.another.set j x, h.leading.set_far (Ne.symm h.ne.2.2.2.2.2) _, h.lo, h.ne⟩
theorem FiAt.setL (h : FiAt w B p gf ga gl n ao ca es F An D) (j : Nat) (x : Int) : FiAt (w.setCell ⟨gl, j, none⟩ (.int .i64 x)) B p gf ga gl n ao ca es F An (D.set j x) :=
  ⟨(blk_same h.ne.2.2.1 _).trans h.blk, h.first.set_far h.ne.2.2.2.2.1 _, h.another.set_far h.ne.2.2.2.2.2 _, h.leading.set j x, h.lo, h.ne⟩
theorem five_cells {R : Nat} {t : TypeId} {a b c d e : Value} (h : w.heap[R]? = some (.cells #[a, b, c, d, e] t (0, 0))) : w.cell? ⟨R, 0, none⟩ = some a ∧ w.cell? ⟨R, 1, none⟩ = some b ∧ w.cell? ⟨R, 2, none⟩ = some c ∧ w.cell? ⟨R, 3, none⟩ = some d ∧ w.cell? ⟨R, 4, none⟩ = some e := by
  refine ⟨?_, ?_, ?_, ?_, ?_⟩ <;> simp [World.cell?, h]
end

set_option maxRecDepth 100000 in
set_option maxHeartbeats 4000000 in
theorem fto_any (B p gf ga gl n : Nat) (ao : Option Addr) (ca : Nat) (es : List (Int × Int)) (F An D : List Int) (x : Int) (w : World) (hf : FiAt w B p gf ga gl n ao ca es F An D) (hD : D.length = n) :
    Calls Try.prog 50 #[.pointer (some ⟨p, 0, none⟩), .int .i64 x] w fun e w' => e = .returned (.int .i64 (Ro.toF n D x)) ∧ w' = w := by
  obtain ⟨c0, c1, c2, c3, c4⟩ := five_cells hf.blk
  have HF := Nu.hid hf
  have HD := Nu.hid hD
  clear hf hD
  by_cases h0 : 0 ≤ x
  · by_cases h1 : x < (n : Int)
    · obtain ⟨y, rfl⟩ : ∃ y : Nat, x = (y : Int) := ⟨x.toNat, by omega⟩
      obtain ⟨z, hz⟩ : ∃ z, D[y]? = some z := ⟨_, List.getElem?_eq_getElem (by have := HD.out; omega)⟩
      have cz := HF.out.leading.cell hz
      have he : Ro.toF n D (y : Int) = z := by
        unfold Ro.toF
        rw [if_pos ⟨h0, h1⟩, Int.toNat_natCast, List.getD_eq_getElem?_getD, hz]
        rfl
      rw [he]
      have j1 : ¬ (y : Int) < 0 := by omega
      have j2 : ¬ (n : Int) ≤ (y : Int) := by omega
      clear he hz
      go_enter Try.func50, Try.ntmps50
      go_wp2
      go_ret
      exact ⟨rfl, rfl⟩
    · have he : Ro.toF n D x = -1 := by
        unfold Ro.toF
        rw [if_neg (by omega)]
      rw [he]
      have j1 : ¬ x < 0 := by omega
      have j2 : (n : Int) ≤ x := by omega
      clear he
      go_enter Try.func50, Try.ntmps50
      go_wp2
      go_ret
      exact ⟨rfl, rfl⟩
  · have he : Ro.toF n D x = -1 := by
      unfold Ro.toF
      rw [if_neg (by omega)]
    rw [he]
    have j1 : x < 0 := by omega
    clear he
    go_enter Try.func50, Try.ntmps50
    go_wp2
    go_ret
    exact ⟨rfl, rfl⟩

/-- What at reads while it tells: the finder's fields. -/
structure FS (V w0 : World) (p gl n : Nat) (ao : Option Addr) (m ca : Nat) : Prop where
  n0 : V.cell? ⟨p, 0, none⟩ = some (.int .i64 (n : Int))
  e0 : V.cell? ⟨p, 1, none⟩ = some (.slice ao m ca)
  l0 : V.cell? ⟨p, 4, none⟩ = some (.slice (some ⟨gl, 0, none⟩) n n)
  far : p ≠ gl ∧ w0.heap.size ≤ gl
  low : Below w0.heap.size w0 V

theorem FS.later {V V' w0 : World} {p gl n m ca : Nat} {ao : Option Addr} (h : FS V w0 p gl n ao m ca) (hb : Below V.heap.size V V') : FS V' w0 p gl n ao m ca :=
  ⟨(hb.cell (p := ⟨p, 0, none⟩) (block_lt_of_cell h.n0)).trans h.n0, (hb.cell (p := ⟨p, 1, none⟩) (block_lt_of_cell h.e0)).trans h.e0, (hb.cell (p := ⟨p, 4, none⟩) (block_lt_of_cell h.l0)).trans h.l0, h.far, h.low.trans (hb.mono h.low.size)⟩
theorem FS.store {V w0 : World} {p gl n m ca : Nat} {ao : Option Addr} (h : FS V w0 p gl n ao m ca) (i : Nat) (x : Value) : FS (V.setCell ⟨gl, i, none⟩ x) w0 p gl n ao m ca := by
  have h1 := h.far.1
  exact ⟨(World.cell?_setCell_other _ _ _ _ (fun e => by simp only [Addr.mk.injEq] at e; omega)).trans h.n0, (World.cell?_setCell_other _ _ _ _ (fun e => by simp only [Addr.mk.injEq] at e; omega)).trans h.e0, (World.cell?_setCell_other _ _ _ _ (fun e => by simp only [Addr.mk.injEq] at e; omega)).trans h.l0, h.far, h.low.trans (below_setCell (g := gl) _ h.far.2)⟩

theorem frozen_later' {V V' : World} {g i : Nat} (hb : Below V.heap.size V V') (hg : g < V.heap.size) : V'.frozen? ⟨g, i, none⟩ = V.frozen? ⟨g, i, none⟩ := by
  unfold World.frozen?
  rw [hb.block g hg]

def FatPost (B p gf ga gl n : Nat) (ao : Option Addr) (ca : Nat) (es : List (Int × Int)) (F An : List Int) (v : Nat) (w : World) (e : Ending) (w' : World) : Prop :=
  e = .returned (.tuple #[]) ∧ Wrote (fun b => b = gl) w w' ∧ ∃ D, FiAt w' B p gf ga gl n ao ca es F An D ∧ Ro.Ld n es v 0 D

set_option maxRecDepth 100000 in
set_option maxHeartbeats 8000000 in
theorem fat_any (B p gf ga gl n : Nat) (ao : Option Addr) (ca : Nat) (es : List (Int × Int)) (F An D : List Int) (v : Nat) (w0 w : World) (hf : FiAt w B p gf ga gl n ao ca es F An D) (hfi : Ro.Fi n es F An (2 * es.length)) (hld : Ro.Ld n es v (2 * es.length) D) (he : EdgesAt w0 ao es) (hB : B = w0.heap.size) (hb0 : Below B w0 w) (hv : Si.Val n es) (hvn : v < n) :
    Calls Try.prog 49 #[.pointer (some ⟨p, 0, none⟩), .int .i64 (v : Int)] w (FatPost B p gf ga gl n ao ca es F An v w) := by
  obtain ⟨c0, c1, c2, c3, c4⟩ := five_cells hf.blk
  have cf := hf.first.cell (hfi.first v hvn)
  have hvn2 : (v : Int) < (n : Int) := by omega
  have hfew := hv.few
  have hBl := hf.lo.2.2.2
  have HF := Nu.hid hf
  have HFI := Nu.hid hfi
  have HLD := Nu.hid hld
  have HE := Nu.hid he
  have HB0 := Nu.hid hb0
  have HBE := Nu.hid hB
  have HV := Nu.hid hv
  obtain ⟨L0, hL0⟩ : ∃ L0, L0 = Ro.lo es v (2 * es.length) := ⟨_, rfl⟩
  rw [← hL0] at cf
  have HL0 := Nu.hid hL0
  clear hf hfi hld he hb0 hB hv hL0
  go_enter Try.func49, Try.ntmps49
  go_wp2
  clear c0 c1 c2 c3 c4 cf
  go_loopw [4] (fun c wr => ∃ (k : Nat) (D : List Int), k ≤ 2 * es.length ∧ c = .int .i64 (Ro.lo es v k) ∧ Ro.Ld n es v k D ∧ FiAt wr B p gf ga gl n ao ca es F An D ∧ Wrote (fun b => b = gl) w wr) (fun c _ => (intOf c + 1).toNat)
  case atStart => exact ⟨2 * es.length, D, Nat.le_refl _, by rw [HL0.out], HLD.out, HF.out, Wrote.refl _ _⟩
  case round =>
    clear HF HLD
    obtain ⟨k, D, hk, rfl, hld, hf, hb⟩ := hrel
    have HLD := Nu.hid hld
    have HF := Nu.hid hf
    have HB := Nu.hid hb
    obtain ⟨c0, c1, c2, c3, c4⟩ := five_cells hf.blk
    clear hld hf hb
    rcases Ro.lo_spec es v k with ⟨h1, h2⟩ | ⟨h, h1, h2, h3, h4⟩
    · rw [h1]
      have HD := Nu.hid (HLD.out.done h2)
      clear h1 h2
      go_wp2
      go_end0
      exact ⟨rfl, HB.out, D, HF.out, HD.out⟩
    · rw [h1]
      have hh : h < 2 * es.length := by omega
      have t1 : ((h : Int) != -1) = true := by first | (simp; done) | (simp; omega)
      have HLT := Nu.hid (fun V (hV : Below w0.heap.size w0 V) => leadsTo_any n ao ca es h V (HE.out.later hV) HV.out hh)
      have htn := (Cs.half_lt HV.out hh).2
      have HP := Nu.hid (HLD.out.put HV.out hk h2 h3 h4)
      have H3 := Nu.hid h3
      obtain ⟨y, hy⟩ : ∃ y, D[Cs.to es h]? = some y := ⟨_, List.getElem?_eq_getElem (by rw [HLD.out.len]; exact htn)⟩
      have HY := Nu.hid (HF.out.leading.cell hy)
      have hBw := HB0.out.trans (HB.out.below (by rw [HBE.out]; exact HB0.out.size) (fun q hq => by rw [hq]; exact hBl))
      rw [HBE.out] at hBw
      have HBW := Nu.hid hBw
      obtain ⟨t, ht⟩ : ∃ t, t = Cs.to es h := ⟨_, rfl⟩
      rw [← ht] at HLT htn HP HY
      have htn2 : (t : Int) < (n : Int) := by omega
      have hh2 : (h : Int) < 2 * (es.length : Int) := by omega
      have HAS : Hid (FS wr.drew w0 p gl n ao es.length ca) := FS.later (V := wr) ⟨c0, c1, c4, ⟨HF.out.ne.2.2.1, by rw [← HBE.out]; exact hBl⟩, HBW.out⟩ (Below.refl _ _).drew
      have HS : Hid (∀ V, FS V w0 p gl n ao es.length ca → V.cell? ⟨p, 0, none⟩ = some (.int .i64 (n : Int)) ∧ V.cell? ⟨p, 1, none⟩ = some (.slice ao es.length ca) ∧ V.cell? ⟨p, 4, none⟩ = some (.slice (some ⟨gl, 0, none⟩) n n) ∧ FS V w0 p gl n ao es.length ca) := fun V hV => ⟨hV.n0, hV.e0, hV.l0, hV⟩
      have HFR := Nu.hid (HF.out.leading.free t)
      clear h1 h3 h4 hy hBw ht c0 c1 c2 c3 c4
      go_wp2_with fail
      go_region_held3 (fun V => V.cell? ⟨p, 0, none⟩ = some (.int .i64 (n : Int)) ∧ V.cell? ⟨p, 1, none⟩ = some (.slice ao es.length ca) ∧ V.cell? ⟨p, 4, none⟩ = some (.slice (some ⟨gl, 0, none⟩) n n) ∧ FS V w0 p gl n ao es.length ca)
        (first | exact HS.out _ (by first | assumption | exact HAS.out) | exact HS.out _ (FS.store (by first | assumption | exact HAS.out) _ _))
        ((go_at_call 29; refine (HLT.out _ HAS.out.low).mono ?_; rintro e V1 ⟨rfl, hb1⟩; have has1 := HAS.out.later hb1; have hy1 := (hb1.cell (p := ⟨gl, t, none⟩) (block_lt_of_cell HY.out)).trans HY.out; have hfr1 : V1.frozen? ⟨gl, t, none⟩ = false := (frozen_later' hb1 (block_lt_of_cell HY.out)).trans HFR.out))
      have hbV : Below wr.heap.size wr V1 := ((Below.refl wr.heap.size wr).drew).trans hb1
      have hF2 := (HF.out.later hbV).setL t (h : Int)
      obtain ⟨c0, c1, c2, c3, c4⟩ := five_cells hF2.blk
      have can := hF2.another.cell (HFI.out.another h hh)
      have HF2 := Nu.hid hF2
      have HB2 := Nu.hid ((HB.out.later hbV).setCell (b := gl) (i := t) rfl (.int .i64 (h : Int)))
      rw [H3.out] at can
      clear hbV hb1 has1 hy1 hfr1 hF2
      go_wp2
      go_roundw
      case rel => exact ⟨h, D.set t (h : Int), by omega, rfl, HP.out, HF2.out, HB2.out⟩
      case measure =>
        simp [intOf]
        rcases Ro.lo_spec es v h with ⟨q1, -⟩ | ⟨q, q1, q2, -⟩ <;> rw [q1] <;> omega

end Go.Proofs.Ytloabkgojopeaaa
