import Derived.Test.YtmgoahbloppdmaaMg07
import Derived.Test.YtmgoahbloppdmaaMg27
import Derived.Test.YtmgoahbloppdmaaMg05
import Derived.Test.YtmgoahbloppdmaaMg08
import Derived.Test.YtmgoahbloppdmaaMg01
import Derived.Deep.RegionHeld3
/-
  The document's Ends, tree and above of layer 8.
-/
namespace Go.Proofs.Ytmgoahbloppdmaa
open Go.RowKit

section
variable {w : World} {n : Nat} {ao : Option Addr} {ca : Nat} {es : List (Int × Int)} {f : For} {s : Df.St}

/-- The four lists as they are handed on. -/
abbrev fval (f : For) (s : Df.St) : Value := .agg #[.slice f.a1 s.par.length f.c1, .slice f.a2 s.hei.length f.c2, .slice f.a3 s.ord.length f.c3, .slice f.a4 s.ori.length f.c4]

set_option maxRecDepth 100000 in
set_option maxHeartbeats 16000000 in
theorem r8ends_any (e : Nat) (he : EdgesAt w ao es) (hv : Si.Val n es) (hF : LstF w f s) (hVF : Df.VF n es s) (hel : e < es.length) :
    Calls Try.prog 9 #[.agg #[.int .i64 (n : Int), .slice ao es.length ca], f.val s, .int .i64 (e : Int)] w fun r w' => r = .returned (.tuple #[.int .i64 (Lo.fr es s e : Int), .int .i64 (Lo.go_ es s e : Int)]) ∧ Below w.heap.size w w' := by
  obtain ⟨hx, hpar, hxl, hx2⟩ := Lo.oh_of hVF hel
  obtain ⟨p, hp, -, hends⟩ := half_edge hv hxl
  rw [hx2] at hp
  have l4 := hVF.lens.2.2.2
  obtain ⟨W, hW⟩ : ∃ W, W = bxw w n ao ca es f s := ⟨_, rfl⟩
  have hbx : BxAt w W n ao ca es f s := by rw [hW]; exact BxAt.new
  have HBX := Nu.hid hbx
  obtain ⟨b4, o4, e4, d4⟩ := lst_at (hF.later hbx.bel).l4 (i := e) (by omega)
  rw [show s.ori.getD e (-1) = _ from hx] at d4
  obtain ⟨be, oe, ea, q0, q1⟩ := (he.later hbx.bel) e p hp
  obtain ⟨a1, a2, a3, a4, c1, c2, c3, c4⟩ := f
  dsimp only at e4
  subst e4
  subst ea
  have x1 := hbx.x1
  have k3 := hbx.k3
  dsimp only at k3
  unfold For.val
  unfold bxw at hW
  dsimp only at hW ⊢
  rw [l4] at k3 hW ⊢
  have v0 : (0 : Int) ≤ (e : Int) := by omega
  have v1 : (e : Int) < (es.length : Int) := by omega
  obtain ⟨j, hj⟩ : ∃ j, Lo.oh s e = j := ⟨_, rfl⟩
  have hfe : Lo.fr es s e = Cs.fr es j := by unfold Lo.fr; rw [hj]
  have hte : Lo.go_ es s e = Cs.to es j := by unfold Lo.go_; rw [hj]
  rw [hfe, hte]
  rw [hj] at d4 hends hpar
  have hj0 : (0 : Int) ≤ (j : Int) := by omega
  rw [hW] at d4 q0 q1 x1 k3
  rcases hends with ⟨hm, hf1, ht1⟩ | ⟨hm, hf1, ht1⟩
  · have hm1 : (j : Int).tmod 2 = 0 := by rw [Int.tmod_eq_emod_of_nonneg hj0]; omega
    have hm2 : (j : Int) % 2 = 0 := by omega
    rw [hf1, ht1]
    have HB0 : Hid (Below w.heap.size w W) := hbx.bel
    rw [hW] at HB0
    clear he hv hF hVF hbx HBX hW hx hpar hxl hx2 hp hfe hte hj hf1 ht1 hm
    go_enter Try.func9, Try.ntmps9
    go_wp2_with fail
    go_quiet (fail)
    go_wp2
    go_ret2
    exact ⟨rfl, below_drewN HB0.out _⟩
  · have hm1 : (j : Int).tmod 2 = 1 := by rw [Int.tmod_eq_emod_of_nonneg hj0]; omega
    have hm2 : (j : Int) % 2 = 1 := by omega
    rw [hf1, ht1]
    have HB0 : Hid (Below w.heap.size w W) := hbx.bel
    rw [hW] at HB0
    clear he hv hF hVF hbx HBX hW hx hpar hxl hx2 hp hfe hte hj hf1 ht1 hm
    go_enter Try.func9, Try.ntmps9
    go_wp2_with fail
    go_quiet (fail)
    go_wp2
    go_ret2
    exact ⟨rfl, below_drewN HB0.out _⟩
end

end Go.Proofs.Ytmgoahbloppdmaa

/-
  What an Adj answers: First, After.
-/
namespace Go.Proofs.Ytmgoahbloppdmaa
open Go.RowKit

/-- What First answers. -/
def Cs.firstI (n : Nat) (es : List (Int × Int)) (x : Int) : Int := (Cs.outZ n es x).getD 0 (-1)

set_option maxRecDepth 100000 in
set_option maxHeartbeats 4000000 in
theorem first_any (v : Value) (n : Nat) (es : List (Int × Int)) (x : Int) (w : World) (h : IsAdj w v n es) : Calls Try.prog 53 #[v, .int .i64 x] w fun e w' => e = .returned (.int .i64 (Cs.firstI n es x)) ∧ ∃ k, w' = w.drewN k := by
  have HL := Nu.hid (leaving_any v n es x w w h (Below.refl _ _))
  clear h
  unfold Cs.firstI
  cases hL : Cs.outZ n es x with
  | nil =>
    have HL2 : Hid (Calls Try.prog 67 #[v, .int .i64 x] w fun e w' => ∃ ao cap, e = .returned (.slice ao 0 cap) ∧ ∃ k, w' = w.drewN k) := HL.out.mono (by
      rintro e w' ⟨ao, cap, h1, _, h3⟩
      rw [hL] at h1
      exact ⟨ao, cap, h1, h3⟩)
    clear HL hL
    go_enter Try.func53, Try.ntmps53
    go_wp2_with (go_at_call 67; refine HL2.out.mono ?_; rintro e w1 ⟨ao, cap, rfl, k, rfl⟩)
    go_ret
    exact ⟨rfl, k, rfl⟩
  | cons z L =>
    have HL2 : Hid (Calls Try.prog 67 #[v, .int .i64 x] w fun e w' => ∃ b o cap k, e = .returned (.slice (some ⟨b, o, none⟩) (L.length + 1) cap) ∧ w.cell? ⟨b, o, none⟩ = some (.int .i64 z) ∧ w' = w.drewN k) := HL.out.mono (by
      rintro e w' ⟨ao, cap, h1, h2, k, h3⟩
      rw [hL] at h1 h2
      obtain ⟨b, o, rfl, h4⟩ := h2 0 z rfl
      exact ⟨b, o, cap, k, h1, h4, h3⟩)
    have hne : ((L.length : Int) + 1 == 0) = false := by simp; omega
    clear HL hL
    go_enter Try.func53, Try.ntmps53
    go_wp2_with (go_at_call 67; refine HL2.out.mono ?_; rintro e w1 ⟨b, o, cap, k, rfl, hc, rfl⟩)
    go_ret
    exact ⟨rfl, k, rfl⟩

/-- What After answers. -/
def Cs.afterI (n : Nat) (es : List (Int × Int)) (x : Int) : Int :=
  if 0 ≤ x ∧ x < 2 * (es.length : Int) then (Cs.outZ n es (Cs.fr es x.toNat)).getD ((Cs.out es (Cs.fr es x.toNat) x.toNat).length + 1) (-1) else -1

theorem Cs.afterI_no {n : Nat} {es : List (Int × Int)} {x : Int} (h : ¬ (0 ≤ x ∧ x < 2 * (es.length : Int))) : Cs.afterI n es x = -1 := by unfold Cs.afterI; rw [if_neg h]

set_option maxRecDepth 100000 in
set_option maxHeartbeats 4000000 in
theorem after_any (v : Value) (n : Nat) (es : List (Int × Int)) (x : Int) (w : World) (h : IsAdj w v n es) : Calls Try.prog 34 #[v, .int .i64 x] w fun e w' => e = .returned (.int .i64 (Cs.afterI n es x)) ∧ ∃ k, w' = w.drewN k := by
  have HV := Nu.hid (hasHalf_any v n es x w h)
  have HF := Nu.hid (from_any v n es x w h)
  by_cases hx : 0 ≤ x ∧ x < 2 * (es.length : Int)
  · rw [decide_eq_true hx] at HV
    rcases h with ⟨rfl, rfl, rfl⟩ | ⟨B, p, rfl, hv, gd, gs, gh, gp, gt, h⟩
    · simp at hx; omega
    · obtain ⟨i, rfl⟩ : ∃ u : Nat, x = (u : Int) := ⟨x.toNat, by omega⟩
      have hi : i < 2 * es.length := by omega
      have hlt : ∀ i, i < 2 * es.length → Cs.fr es i < n := fun i hi => (Cs.half_lt hv hi).1
      have hul := hlt i hi
      rw [Cs.frI_in hi] at HF
      have ea : Cs.afterI n es i = (Cs.outZ n es (Cs.fr es i)).getD ((Cs.out es (Cs.fr es i) i).length + 1) (-1) := by
        unfold Cs.afterI
        rw [if_pos hx, Int.toNat_natCast]
      rw [ea]
      have hle := Cs.st_le hlt hul
      have hol := Cs.out_lt (es := es) (k := 2 * es.length) hi rfl
      have hfew := hv.few
      have c0 := h.blk.c0
      have c1 := h.blk.c1
      have c2 := h.blk.c2
      have c3 := h.blk.c3
      have d0 := h.deg _ hul
      have d1 := h.start _ hul
      have d3 := h.place i hi
      have hhalf := h.half
      have hpos : Cs.pos es (2 * es.length) i = Cs.st es (2 * es.length) (Cs.fr es i) + (Cs.out es (Cs.fr es i) i).length := rfl
      rw [hpos] at d3
      obtain ⟨j, hj⟩ : ∃ j, (Cs.out es (Cs.fr es i) i).length = j := ⟨_, rfl⟩
      rw [hj] at d3 hol ⊢
      have hnx : ∀ (q : Nat), (Cs.out es (Cs.fr es i) (2 * es.length))[j + 1]? = some q → w.cell? ⟨gh, Cs.st es (2 * es.length) (Cs.fr es i) + (j + 1), none⟩ = some (.int .i64 (q : Int)) := fun q hq => by
        obtain ⟨h1, h2, h3⟩ := Cs.out_of hq
        have := hhalf q h1
        unfold Cs.pos at this
        rw [h2, h3] at this
        exact this
      unfold Cs.outZ
      rw [List.getD_eq_getElem?_getD, List.getElem?_map, Cs.outI_in hul]
      obtain ⟨f, hf⟩ : ∃ f, Cs.fr es i = f := ⟨_, rfl⟩
      rw [hf] at HF hle hol d0 d1 d3 hnx hul ⊢
      obtain ⟨O, hO⟩ : ∃ O, Cs.out es f (2 * es.length) = O := ⟨_, rfl⟩
      rw [hO] at hle hol d0 hnx ⊢
      obtain ⟨s, hs⟩ : ∃ s, Cs.st es (2 * es.length) f = s := ⟨_, rfl⟩
      rw [hs] at hle d1 d3 hnx
      have z0 : (0 : Int) ≤ (i : Int) := by omega
      have z1 : (i : Int) < 2 * (es.length : Int) := by omega
      have z2 : (0 : Int) ≤ (f : Int) := by omega
      have z3 : (f : Int) < (n : Int) := by omega
      clear h hv hlt hhalf hf hO hs hj ea hpos hx
      by_cases hlast : j + 1 = O.length
      · have hge : O[j + 1]? = none := List.getElem?_eq_none (by omega)
        rw [hge]
        have he : ((s : Int) + (j : Int) + 1 == (s : Int) + (O.length : Int)) = true := by simp; omega
        clear hnx hge
        go_enter Try.func34, Try.ntmps34
        go_wp2_with (first | (go_at_call 55; refine HV.out.mono ?_; rintro e w1 ⟨rfl, rfl⟩) | (go_at_call 44; refine HF.out.mono ?_; rintro e w1 ⟨rfl, rfl⟩))
        go_quiet (fail)
        go_wp2
        go_ret
        exact ⟨rfl, _, rfl⟩
      · obtain ⟨q, hq⟩ : ∃ q, O[j + 1]? = some q := ⟨_, List.getElem?_eq_getElem (by omega)⟩
        have hc := hnx q hq
        rw [hq]
        have he : ((s : Int) + (j : Int) + 1 == (s : Int) + (O.length : Int)) = false := by simp; omega
        have z4 : (0 : Int) ≤ (s : Int) + (j : Int) + 1 := by omega
        have z5 : (s : Int) + (j : Int) + 1 < 2 * (es.length : Int) := by omega
        have z6 : ((s : Int) + (j : Int) + 1).toNat = s + (j + 1) := by omega
        clear hnx hq
        go_enter Try.func34, Try.ntmps34
        go_wp2_with (first | (go_at_call 55; refine HV.out.mono ?_; rintro e w1 ⟨rfl, rfl⟩) | (go_at_call 44; refine HF.out.mono ?_; rintro e w1 ⟨rfl, rfl⟩))
        go_quiet (fail)
        go_wp2
        go_ret
        exact ⟨rfl, _, rfl⟩
  · rw [decide_eq_false hx] at HV
    rw [Cs.afterI_no hx]
    clear h hx HF
    go_enter Try.func34, Try.ntmps34
    go_wp2_with (go_at_call 55; refine HV.out.mono ?_; rintro e w1 ⟨rfl, rfl⟩)
    go_ret
    exact ⟨rfl, 0, rfl⟩

end Go.Proofs.Ytmgoahbloppdmaa

/-
  A walk under way, in memory.
-/
namespace Go.Proofs.Ytmgoahbloppdmaa
open Go.RowKit

/-- The cells of a walker. -/
abbrev wcells (av : Value) (gp gh gr n m : Nat) (ov sv : Value) : Array Value := #[av, .slice (some ⟨gp, 0, none⟩) n n, .slice (some ⟨gh, 0, none⟩) n n, ov, .slice (some ⟨gr, 0, none⟩) m m, sv]

/-- Block p is a walker over the Adj av, the walk s under way, K what is ahead; all of it was laid since w0. -/
structure WalkAt (w0 w : World) (p gp gh gr : Nat) (av ov sv : Value) (n m : Nat) (s : Df.St) (K : List Int) : Prop where
  bel : Below w0.heap.size w0 w
  blk : w.heap[p]? = some (.cells (wcells av gp gh gr n m ov sv) 60 (0, 0))
  ip : IntsBlk w gp s.par
  ih : IntsBlk w gh s.hei
  ir : IntsBlk w gr s.ori
  ow : OwnZ w w0.heap.size ov s.ord
  sw : OwnZ w w0.heap.size sv K
  lo : w0.heap.size ≤ p ∧ w0.heap.size ≤ gp ∧ w0.heap.size ≤ gh ∧ w0.heap.size ≤ gr
  ne : p ≠ gp ∧ p ≠ gh ∧ p ≠ gr ∧ gp ≠ gh ∧ gp ≠ gr ∧ gh ≠ gr
  of_ : ov.ownBlock ≠ some p ∧ ov.ownBlock ≠ some gp ∧ ov.ownBlock ≠ some gh ∧ ov.ownBlock ≠ some gr
  sf : sv.ownBlock ≠ some p ∧ sv.ownBlock ≠ some gp ∧ sv.ownBlock ≠ some gh ∧ sv.ownBlock ≠ some gr
  os : ∀ b, ov.ownBlock = some b → sv.ownBlock ≠ some b



section
variable {w0 w w' : World} {p gp gh gr : Nat} {av ov sv : Value} {n m : Nat} {s : Df.St} {K : List Int}

theorem WalkAt.c0 (h : WalkAt w0 w p gp gh gr av ov sv n m s K) : w.cell? ⟨p, 0, none⟩ = some av := by simp [World.cell?, h.blk]
theorem WalkAt.c1 (h : WalkAt w0 w p gp gh gr av ov sv n m s K) : w.cell? ⟨p, 1, none⟩ = some (.slice (some ⟨gp, 0, none⟩) n n) := by simp [World.cell?, h.blk]
theorem WalkAt.c2 (h : WalkAt w0 w p gp gh gr av ov sv n m s K) : w.cell? ⟨p, 2, none⟩ = some (.slice (some ⟨gh, 0, none⟩) n n) := by simp [World.cell?, h.blk]
theorem WalkAt.c3 (h : WalkAt w0 w p gp gh gr av ov sv n m s K) : w.cell? ⟨p, 3, none⟩ = some ov := by simp [World.cell?, h.blk]
theorem WalkAt.c4 (h : WalkAt w0 w p gp gh gr av ov sv n m s K) : w.cell? ⟨p, 4, none⟩ = some (.slice (some ⟨gr, 0, none⟩) m m) := by simp [World.cell?, h.blk]
theorem WalkAt.free (h : WalkAt w0 w p gp gh gr av ov sv n m s K) (i : Nat) : w.frozen? ⟨p, i, none⟩ = false := by simp [World.frozen?, h.blk]
theorem WalkAt.lt (h : WalkAt w0 w p gp gh gr av ov sv n m s K) : p < w.heap.size := lt_of_block h.blk

theorem WalkAt.later (h : WalkAt w0 w p gp gh gr av ov sv n m s K) (hb : Below w.heap.size w w') : WalkAt w0 w' p gp gh gr av ov sv n m s K :=
  ⟨h.bel.trans (hb.mono h.bel.size), (hb.block p h.lt).trans h.blk, h.ip.later hb, h.ih.later hb, h.ir.later hb, h.ow.later hb, h.sw.later hb, h.lo, h.ne, h.of_, h.sf, h.os⟩

theorem WalkAt.stk (h : WalkAt w0 w p gp gh gr av ov sv n m s K) : StkAt w p 5 (wcells av gp gh gr n m ov sv) 60 w0.heap.size sv K := ⟨h.blk, rfl, h.sw, h.sf.1⟩

theorem WalkAt.setPar (h : WalkAt w0 w p gp gh gr av ov sv n m s K) (v : Nat) (x : Int) : WalkAt w0 (w.setCell ⟨gp, v, none⟩ (.int .i64 x)) p gp gh gr av ov sv n m { s with par := s.par.set v x } K :=
  ⟨h.bel.setCell (p := ⟨gp, v, none⟩) h.lo.2.1 _, (blk_same h.ne.1 _).trans h.blk, h.ip.set v x, h.ih.set_far (Ne.symm h.ne.2.2.2.1) _, h.ir.set_far (Ne.symm h.ne.2.2.2.2.1) _, h.ow.set_far h.of_.2.1 _, h.sw.set_far h.sf.2.1 _, h.lo, h.ne, h.of_, h.sf, h.os⟩

theorem WalkAt.setHei (h : WalkAt w0 w p gp gh gr av ov sv n m s K) (v : Nat) (x : Int) : WalkAt w0 (w.setCell ⟨gh, v, none⟩ (.int .i64 x)) p gp gh gr av ov sv n m { s with hei := s.hei.set v x } K :=
  ⟨h.bel.setCell (p := ⟨gh, v, none⟩) h.lo.2.2.1 _, (blk_same h.ne.2.1 _).trans h.blk, h.ip.set_far h.ne.2.2.2.1 _, h.ih.set v x, h.ir.set_far (Ne.symm h.ne.2.2.2.2.2) _, h.ow.set_far h.of_.2.2.1 _, h.sw.set_far h.sf.2.2.1 _, h.lo, h.ne, h.of_, h.sf, h.os⟩

theorem WalkAt.setOri (h : WalkAt w0 w p gp gh gr av ov sv n m s K) (v : Nat) (x : Int) : WalkAt w0 (w.setCell ⟨gr, v, none⟩ (.int .i64 x)) p gp gh gr av ov sv n m { s with ori := s.ori.set v x } K :=
  ⟨h.bel.setCell (p := ⟨gr, v, none⟩) h.lo.2.2.2 _, (blk_same h.ne.2.2.1 _).trans h.blk, h.ip.set_far h.ne.2.2.2.2.1 _, h.ih.set_far h.ne.2.2.2.2.2 _, h.ir.set v x, h.ow.set_far h.of_.2.2.2 _, h.sw.set_far h.sf.2.2.2 _, h.lo, h.ne, h.of_, h.sf, h.os⟩

/-- Order is appended to. -/
theorem WalkAt.putOrd {w1 : World} {ov' : Value} {x : Int} {tmp : Obj} (h : WalkAt w0 w p gp gh gr av ov sv n m s K) (hown : OwnZ w1 w0.heap.size ov' (s.ord ++ [x])) (hg : (w.alloc tmp).grownBy w1 ov.ownBlock) (hat : ov'.ownBlock = ov.ownBlock ∨ ov'.ownBlock = some (w.heap.size + 1)) :
    WalkAt w0 (w1.setCell ⟨p, 3, none⟩ ov') p gp gh gr av ov' sv n m { s with ord := s.ord ++ [x] } K ∧ w1.cell? ⟨p, 3, none⟩ = some ov ∧ w1.frozen? ⟨p, 3, none⟩ = false ∧ w1.heap[p]? = w.heap[p]? := by
  have keep : ∀ b, b < w.heap.size → ov.ownBlock ≠ some b → w1.heap[b]? = w.heap[b]? := fun b hb hne => by
    rw [hg.block b (by rw [World.size_alloc]; omega) (fun e => hne e.symm)]
    exact Below.heap_alloc w tmp b hb
  have hp := keep p h.lt h.of_.1
  have hp1 := hp.trans h.blk
  have hsz : w.heap.size ≤ w1.heap.size := by
    have := hg.size
    rw [World.size_alloc] at this
    omega
  have hB := h.bel.size
  have hnew : ∀ b, b < w.heap.size → ov.ownBlock ≠ some b → ov'.ownBlock ≠ some b := fun b hb hne e => by
    rcases hat with e1 | e1
    · exact hne (e1.symm.trans e)
    · rw [e1] at e
      have := Option.some.inj e
      omega
  have hfp := hnew p h.lt h.of_.1
  refine ⟨⟨?_, ?_, ?_, ?_, ?_, ?_, ?_, h.lo, h.ne, ⟨hfp, hnew gp h.ip.lt h.of_.2.1, hnew gh h.ih.lt h.of_.2.2.1, hnew gr h.ir.lt h.of_.2.2.2⟩, h.sf, fun b hb hs => ?_⟩, by simp [World.cell?, hp1], by simp [World.frozen?, hp1], hp⟩
  · have hb1 : Below w0.heap.size w w1 := ⟨hg.os, hg.tape, hg.output, hsz, fun k hk => keep k (by omega) (fun e => by have := (h.ow.lt e).1; omega)⟩
    exact (h.bel.trans hb1).setCell (p := ⟨p, 3, none⟩) h.lo.1 _
  · rw [heap_setCell_same w1 p 3 _ _ _ hp1]
    rfl
  · exact IntsBlk.set_far ((keep gp h.ip.lt h.of_.2.1).trans h.ip) (Ne.symm h.ne.1) _
  · exact IntsBlk.set_far ((keep gh h.ih.lt h.of_.2.2.1).trans h.ih) (Ne.symm h.ne.2.1) _
  · exact IntsBlk.set_far ((keep gr h.ir.lt h.of_.2.2.2).trans h.ir) (Ne.symm h.ne.2.2.1) _
  · exact hown.set_far hfp _
  · exact OwnZ.set_far (h.sw.same fun b hb hl => keep b hl fun e => h.os b e hb) h.sf.1 _
  · exact hnew b (h.sw.lt hs).2 (fun e => h.os b e hs) hb

/-- The stack is pushed. -/
theorem WalkAt.pushed {e : Ending} {K' : List Int} (h : WalkAt w0 w p gp gh gr av ov sv n m s K) (hp : PushPost p 5 (wcells av gp gh gr n m ov sv) 60 w0.heap.size sv K' w e w') : ∃ sv', WalkAt w0 w' p gp gh gr av ov sv' n m s K' := by
  obtain ⟨_, v', hst, hat, hw⟩ := hp
  have keep : ∀ b, b < w.heap.size → b ≠ p → sv.ownBlock ≠ some b → w'.heap[b]? = w.heap[b]? := fun b hb h1 h2 => hw.block b hb (fun e => e.elim h1 h2)
  have hnew : ∀ b, b < w.heap.size → sv.ownBlock ≠ some b → v'.ownBlock ≠ some b := fun b hb hne e => by
    rcases hat with e1 | ⟨g, e1, hg⟩
    · exact hne (e1.symm.trans e)
    · rw [e1] at e
      have := Option.some.inj e
      omega
  have hB := h.bel.size
  refine ⟨v', ⟨h.bel.trans (hw.below hB fun k hk => ?_), hst.blk, (keep gp h.ip.lt (Ne.symm h.ne.1) h.sf.2.1).trans h.ip, (keep gh h.ih.lt (Ne.symm h.ne.2.1) h.sf.2.2.1).trans h.ih, (keep gr h.ir.lt (Ne.symm h.ne.2.2.1) h.sf.2.2.2).trans h.ir,
    h.ow.same fun b hb hl => keep b hl (fun e => h.of_.1 (by rw [hb, e])) (h.os b hb), hst.own, h.lo, h.ne, h.of_, ⟨hst.far, hnew gp h.ip.lt h.sf.2.1, hnew gh h.ih.lt h.sf.2.2.1, hnew gr h.ir.lt h.sf.2.2.2⟩, fun b hb => hnew b (h.ow.lt hb).2 (h.os b hb)⟩⟩
  rcases hk with rfl | hk
  · exact h.lo.1
  · exact (h.sw.lt hk).1

/-- The stack is popped. -/
theorem WalkAt.popped {x : Int} {e : Ending} {K' : List Int} (h : WalkAt w0 w p gp gh gr av ov sv n m s K) (hp : PopPost p 5 (wcells av gp gh gr n m ov sv) 60 w0.heap.size sv K' x w e w') : ∃ sv', WalkAt w0 w' p gp gh gr av ov sv' n m s K' := by
  obtain ⟨_, v', hst, hat, hw⟩ := hp
  have keep : ∀ b, b < w.heap.size → b ≠ p → w'.heap[b]? = w.heap[b]? := fun b hb h1 => hw.block b hb h1
  have hB := h.bel.size
  refine ⟨v', ⟨h.bel.trans (hw.below hB fun k hk => by subst hk; exact h.lo.1), hst.blk, (keep gp h.ip.lt (Ne.symm h.ne.1)).trans h.ip, (keep gh h.ih.lt (Ne.symm h.ne.2.1)).trans h.ih, (keep gr h.ir.lt (Ne.symm h.ne.2.2.1)).trans h.ir,
    h.ow.same fun b hb hl => keep b hl (fun e => h.of_.1 (by rw [hb, e])), hst.own, h.lo, h.ne, h.of_, by rw [hat]; exact h.sf, by rw [hat]; exact h.os⟩⟩
end

end Go.Proofs.Ytmgoahbloppdmaa

/-
  To reach a vertex; to walk a half-edge.
-/
namespace Go.Proofs.Ytmgoahbloppdmaa
open Go.RowKit

section
variable {w0 w : World} {p gp gh gr : Nat} {av ov sv : Value} {n : Nat} {es : List (Int × Int)} {s : Df.St} {K : List Int}

/-- What is so behind a step of the walk. -/
def WPost (w0 : World) (p gp gh gr : Nat) (av : Value) (n : Nat) (es : List (Int × Int)) (s : Df.St) (K : List Int) (e : Ending) (w' : World) : Prop :=
  e = .returned (.tuple #[]) ∧ ∃ ov sv, WalkAt w0 w' p gp gh gr av ov sv n es.length s K



set_option maxRecDepth 100000 in
set_option maxHeartbeats 4000000 in
theorem reached_any (v : Nat) (h : WalkAt w0 w p gp gh gr av ov sv n es.length s K) (hl : s.hei.length = n) (hv : v < n) :
    Calls Try.prog 18 #[.pointer (some ⟨p, 0, none⟩), .int .i64 (v : Int)] w fun e w' => e = .returned (.bool (s.height v != -1)) ∧ w' = w := by
  have c2 := h.c2
  have d0 := h.ih.cell (getD_of (-1) (by omega : v < s.hei.length))
  have e0 : (0 : Int) ≤ (v : Int) := by omega
  have e1 : (v : Int) < (n : Int) := by omega
  clear h
  obtain ⟨x, hx⟩ : ∃ x, s.hei.getD v (-1) = x := ⟨_, rfl⟩
  rw [hx] at d0
  have hx' : s.height v = x := hx
  rw [hx']
  clear hx hx'
  go_enter Try.func18, Try.ntmps18
  go_wp2
  go_ret
  exact ⟨rfl, rfl⟩

set_option maxRecDepth 100000 in
set_option maxHeartbeats 4000000 in
theorem walked_any (h : Nat) (hW : WalkAt w0 w p gp gh gr av ov sv n es.length s K) (hl : s.ori.length = es.length) (hh : h < 2 * es.length) (hm : es.length ≤ 4194304) :
    Calls Try.prog 35 #[.pointer (some ⟨p, 0, none⟩), .int .i64 (h : Int)] w fun e w' => e = .returned (.bool (s.dir (h / 2) != -1)) ∧ w' = w := by
  have c4 := hW.c4
  obtain ⟨jh, hjh⟩ : ∃ jh, h / 2 = jh := ⟨_, rfl⟩
  have d0 := hW.ir.cell (getD_of (-1) (by omega : jh < s.ori.length))
  rw [hjh]
  have htd : (h : Int).tdiv 2 = (jh : Int) := by rw [Int.tdiv_eq_ediv_of_nonneg (by omega)]; omega
  have htd2 : (h : Int) / 2 = (jh : Int) := by omega
  have e0 : (0 : Int) ≤ (jh : Int) := by omega
  have e1 : (jh : Int) < (es.length : Int) := by omega
  have e2 : (0 : Int) ≤ (h : Int) := by omega
  obtain ⟨x, hx⟩ : ∃ x, s.ori.getD jh (-1) = x := ⟨_, rfl⟩
  rw [hx] at d0
  have hx' : s.dir jh = x := hx
  rw [hx']
  clear hW hx hx'
  go_enter Try.func35, Try.ntmps35
  go_wp2
  go_ret
  exact ⟨rfl, rfl⟩

set_option maxRecDepth 100000 in
set_option maxHeartbeats 8000000 in
theorem reach_any (v : Nat) (x y : Int) (hadj : IsAdj w0 av n es) (h : WalkAt w0 w p gp gh gr av ov sv n es.length s K) (hp : s.par.length = n) (hl : s.hei.length = n) (hv : v < n) (ho : s.ord.length ≤ 17592186044000) (hK : K.length ≤ 17592186044000) :
    Calls Try.prog 30 #[.pointer (some ⟨p, 0, none⟩), .int .i64 (v : Int), .int .i64 x, .int .i64 y] w (WPost w0 p gp gh gr av n es (s.reach v x y) (K ++ [Cs.firstI n es v])) := by
  obtain ⟨i0, hi, hz0, hz1, hz2⟩ := info_parts Try.infoNum
  have h1 := h.setPar v x
  have h2 := h1.setHei v y
  have c1 := h.c1
  have d1 := h.ip.cell (getD_of (-1) (by omega : v < s.par.length))
  have f1 := h.ip.free v
  have c2 := h1.c2
  have d2 := h1.ih.cell (getD_of (-1) (by dsimp only; omega : v < { s with par := s.par.set v x }.hei.length))
  have f2 := h1.ih.free v
  have c3 := h2.c3
  have e0 : (0 : Int) ≤ (v : Int) := by omega
  have e1 : (v : Int) < (n : Int) := by omega
  obtain ⟨w2, hw2⟩ : ∃ w2, w2 = (w.setCell ⟨gp, v, none⟩ (.int .i64 x)).setCell ⟨gh, v, none⟩ (.int .i64 y) := ⟨_, rfl⟩
  rw [← hw2] at h2
  have HW2 := Nu.hid hw2
  have hav : ∃ q, av = .pointer q := by
    rcases hadj with ⟨h, _⟩ | ⟨_, p, h, _⟩
    · exact ⟨_, h⟩
    · exact ⟨_, h⟩
  obtain ⟨q, rfl⟩ := hav
  have hrow : w2.ownsRow w0.heap.size 3 1 ov s.ord.length (s.ord.map (Value.int .i64)) := h2.ow
  have HROW := Nu.hid hrow
  have H2 := Nu.hid h2
  have hB := h2.bel.size
  have hlt2 := h2.lt
  have HADJ := Nu.hid hadj
  clear h h1 h2 hw2 hrow hadj
  go_enter Try.func30, Try.ntmps30
  go_wp2_with (at_builtin; rw [← HW2.out]; refine Hid.out ?_)
  refine Nu.hid ?_
  have hszw : w2.heap.size = w.heap.size := by rw [HW2.out]; simp
  refine wpList_append_own_at _ rfl _ _ 26 rfl w0.heap.size 3 i0 (.int .i64 0) 1 8 Try.underlying26 hi hz0 hz1 hz2 rfl (by decide) ov _ _ rfl (World.ownsRow.alloc HROW.out _) ⟨w.heap.size, 0, none⟩ 1 1 [.int .i64 (v : Int)] rfl rfl (by rw [← hszw]; exact cell_one_new _ _ _) (by simp [Value.oneCell']) (by unfold maxLen; omega) (by omega) (by simp; omega) ?_
  intro ov' w3 hown hg _ hat
  have hz : OwnZ w3 w0.heap.size ov' (s.ord ++ [(v : Int)]) := by
    unfold OwnZ
    rw [List.length_append, List.map_append]
    exact hown
  obtain ⟨h3, c5, f5, _⟩ := H2.out.putOrd hz hg (by simpa using hat)
  obtain ⟨g3, cap3, hv3⟩ := own_succ hown
  subst hv3
  obtain ⟨w4, hw4⟩ : ∃ w4, w4 = w3.setCell ⟨p, 3, none⟩ (.slice (some ⟨g3, 0, none⟩) (s.ord.length + 1) cap3) := ⟨_, rfl⟩
  rw [← hw4] at h3
  have HW4 := Nu.hid hw4
  have H3 := Nu.hid h3
  clear hown hg hat hz hw4 h3 c1 c2 c3 d1 d2 f1 f2 HROW H2
  go_wp2_with fail
  rw [← HW4.out]
  have c6 := H3.out.c0
  have HF : Hid (∀ V, Below w4.heap.size w4 V → Calls Try.prog 53 #[.pointer q, .int .i64 (v : Int)] V fun e V' => e = .returned (.int .i64 (Cs.firstI n es v)) ∧ Below V.heap.size V V') := fun V hV => (first_any _ n es v V (HADJ.out.later (H3.out.bel.trans (hV.mono H3.out.bel.size)))).mono (by
    rintro e V' ⟨rfl, k, rfl⟩
    exact ⟨rfl, below_drewN (Below.refl _ _) k⟩)
  have HP : Hid (∀ V, Below w4.heap.size w4 V → Calls Try.prog 33 #[.pointer (some ⟨p, 5, none⟩), .int .i64 (Cs.firstI n es v)] V fun e V' => e = .returned (.tuple #[]) ∧ ∃ ov sv, WalkAt w0 V' p gp gh gr (.pointer q) ov sv n es.length (s.reach v x y) (K ++ [Cs.firstI n es v])) := fun V hV => by
    have hW := H3.out.later hV
    refine (push_any p 5 _ _ _ _ K (Cs.firstI n es v) V hW.stk hW.bel.size hK).mono ?_
    intro e V' hp
    obtain ⟨sv', h⟩ := hW.pushed hp
    exact ⟨hp.1, _, sv', h⟩
  have hbd : Below w4.heap.size w4 w4.drew := (Below.refl _ _).drew
  have hS : ∀ V, Below w4.heap.size w4 V → (V.cell? ⟨p, 0, none⟩ = some (.pointer q)) := fun V hV => (H3.out.later hV).c0
  have HS := Nu.hid hS
  clear c6 hS c5 f5
  go_region_held3 (fun V => V.cell? ⟨p, 0, none⟩ = some (.pointer q))
    (first | exact HS.out _ (by first | assumption | exact hbd) | (obtain ⟨_, _, hw⟩ := ‹∃ ov sv, WalkAt _ _ _ _ _ _ _ ov sv _ _ _ _›; exact hw.c0))
    ((first
      | (go_at_call 53; refine (HF.out _ (by first | assumption | exact hbd)).mono ?_; rintro e V1 ⟨rfl, hv1⟩; have hb1 : Below w4.heap.size w4 V1 := Below.trans (by first | assumption | exact hbd) (hv1.mono (Below.size (by first | assumption | exact hbd))))
      | (go_at_call 33; refine (HP.out _ (by first | assumption | exact hbd)).mono ?_; rintro e V2 ⟨rfl, hv2⟩)))
  all_goals
    go_wp2
    go_end0
    exact ⟨rfl, hv2⟩
end

end Go.Proofs.Ytmgoahbloppdmaa
