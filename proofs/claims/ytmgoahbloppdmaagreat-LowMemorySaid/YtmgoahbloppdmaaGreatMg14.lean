import Derived.Test.YtmgoahbloppdmaaGreatMg13
import Derived.Test.YtmgoahbloppdmaaGreatMg09
import Derived.Lib.SliceRun
/-
  The way from a root down, kept in memory; what is left of it.
-/
namespace Go.Proofs.YtmgoahbloppdmaaGreat
open Go.RowKit

/-- A reading with its places, its ends, and the way W (the last vertex first). -/
structure SideAt (w0 w : World) (p q gp gb : Nat) (av : Value) (f : For) (s : Df.St) (n : Nat) (v : Value) (P B W : List Int) : Prop where
  rd : ReadAt w0 w p av f s (.slice (some ⟨gp, 0, none⟩) n n) (.slice (some ⟨gb, 0, none⟩) n n)
  ip : IntsBlk w gp P
  ib : IntsBlk w gb B
  st : StkAt w q 0 #[v] 116 w0.heap.size v W.reverse
  ne : p ≠ gp ∧ p ≠ gb ∧ p ≠ q ∧ gp ≠ gb ∧ gp ≠ q ∧ gb ≠ q
  lo : w0.heap.size ≤ gp ∧ w0.heap.size ≤ gb ∧ w0.heap.size ≤ q
  far : v.ownBlock ≠ some p ∧ v.ownBlock ≠ some gp ∧ v.ownBlock ≠ some gb

section
variable {w0 w w' : World} {p q gp gb : Nat} {av : Value} {f : For} {s : Df.St} {n : Nat} {v : Value} {P B W : List Int}

theorem StkAt.later {b o B : Nat} {cs : Array Value} {T : TypeId} {v : Value} {K : List Int} (h : StkAt w b o cs T B v K) (hb : Below w.heap.size w w') : StkAt w' b o cs T B v K := ⟨(hb.block b h.lt).trans h.blk, h.at_, h.own.later hb, h.far⟩

theorem SideAt.later (h : SideAt w0 w p q gp gb av f s n v P B W) (hb : Below w.heap.size w w') : SideAt w0 w' p q gp gb av f s n v P B W := ⟨h.rd.later hb, h.ip.later hb, h.ib.later hb, h.st.later hb, h.ne, h.lo, h.far⟩

theorem SideAt.setB (h : SideAt w0 w p q gp gb av f s n v P B W) (u : Nat) (x : Int) : SideAt w0 (w.setCell ⟨gb, u, none⟩ (.int .i64 x)) p q gp gb av f s n v P (B.set u x) W := by
  obtain ⟨n1, n2, n3, n4, n5, n6⟩ := h.ne
  exact ⟨h.rd.set_far (Ne.symm n2) h.lo.2.1, h.ip.set_far n4 _, h.ib.set u x, ⟨(blk_same (Ne.symm n6) _).trans h.st.blk, h.st.at_, h.st.own.set_far h.far.2.2 _, h.st.far⟩, h.ne, h.lo, h.far⟩

theorem SideAt.popped {x : Int} {e : Ending} {W' : List Int} (h : SideAt w0 w p q gp gb av f s n v P B W) (hp : PopPost q 0 #[v] 116 w0.heap.size v W'.reverse x w e w') : ∃ v', SideAt w0 w' p q gp gb av f s n v' P B W' := by
  obtain ⟨_, v', hst, hat, hw⟩ := hp
  obtain ⟨n1, n2, n3, n4, n5, n6⟩ := h.ne
  have hB := h.rd.bel.size
  have keep : ∀ b, b < w.heap.size → b ≠ q → w'.heap[b]? = w.heap[b]? := fun b hb h1 => hw.block b hb h1
  exact ⟨v', ⟨h.rd.bel.trans (hw.below hB fun k hk => by subst hk; exact h.lo.2.2), (keep p h.rd.lt n3).trans h.rd.blk, h.rd.lo⟩, (keep gp h.ip.lt n5).trans h.ip, (keep gb h.ib.lt n6).trans h.ib, hst, h.ne, h.lo, by rw [hat]; exact h.far⟩

theorem SideAt.pushed {e : Ending} {x : Int} (h : SideAt w0 w p q gp gb av f s n v P B W) (hp : PushPost q 0 #[v] 116 w0.heap.size v (W.reverse ++ [x]) w e w') : ∃ v', SideAt w0 w' p q gp gb av f s n v' P B (x :: W) := by
  obtain ⟨_, v', hst, hat, hw⟩ := hp
  obtain ⟨n1, n2, n3, n4, n5, n6⟩ := h.ne
  have hB := h.rd.bel.size
  have keep : ∀ b, b < w.heap.size → b ≠ q → v.ownBlock ≠ some b → w'.heap[b]? = w.heap[b]? := fun b hb h1 h2 => hw.block b hb (fun e => e.elim h1 h2)
  have hnew : ∀ b, b < w.heap.size → v.ownBlock ≠ some b → v'.ownBlock ≠ some b := fun b hb hne e => by
    rcases hat with e1 | ⟨g, e1, hg⟩
    · exact hne (e1.symm.trans e)
    · rw [e1] at e
      have := Option.some.inj e
      omega
  refine ⟨v', ⟨h.rd.bel.trans (hw.below hB fun k hk => ?_), (keep p h.rd.lt n3 h.far.1).trans h.rd.blk, h.rd.lo⟩, (keep gp h.ip.lt n5 h.far.2.1).trans h.ip, (keep gb h.ib.lt n6 h.far.2.2).trans h.ib, ?_, h.ne, h.lo, hnew p h.rd.lt h.far.1, hnew gp h.ip.lt h.far.2.1, hnew gb h.ib.lt h.far.2.2⟩
  · rcases hk with rfl | hk
    · exact h.lo.2.2
    · exact (h.st.own.lt hk).1
  · rw [List.reverse_cons]
    exact hst

/-- The way is taken back, and this is to come of it. -/
def LInv (w0 : World) (p q gp gb : Nat) (av : Value) (f : For) (s : Df.St) (n : Nat) (P : List Int) (u i : Int) (T : List Int × List Int) (w : World) (k : Nat) : Prop :=
  ∃ v B W, W.length = k ∧ SideAt w0 w p q gp gb av f s n v P B W ∧ Df.leave u i W B = T ∧ B.length = n ∧ ∀ x ∈ W, 0 ≤ x ∧ x < (n : Int)

/-- What leave does. -/
def LeavePost (w0 : World) (p q gp gb : Nat) (av : Value) (f : For) (s : Df.St) (n : Nat) (P : List Int) (T : List Int × List Int) (e : Ending) (w' : World) : Prop :=
  e = .returned (.tuple #[]) ∧ ∃ v, SideAt w0 w' p q gp gb av f s n v P T.2 T.1

set_option maxRecDepth 100000 in
set_option maxHeartbeats 8000000 in
theorem leave_any (u i : Int) (h : SideAt w0 w p q gp gb av f s n v P B W) (hB : B.length = n) (hW : ∀ x ∈ W, 0 ≤ x ∧ x < (n : Int)) (hl : W.length ≤ 1048576) :
    Calls Tryz.prog 94 #[.pointer (some ⟨p, 0, none⟩), .pointer (some ⟨q, 0, none⟩), .int .i64 u, .int .i64 i] w (LeavePost w0 p q gp gb av f s n P (Df.leave u i W B)) := by
  obtain ⟨T, hT⟩ : ∃ T, Df.leave u i W B = T := ⟨_, rfl⟩
  have HI : Hid (LInv w0 p q gp gb av f s n P u i T w W.length) := ⟨v, B, W, rfl, h, hT, hB, hW⟩
  rw [hT]
  have HL := Nu.hid hl
  clear h hT hB hW hl
  go_enter Tryz.func94, Tryz.ntmps94
  go_wp2
  go_loopw [8] (fun _ wr => ∃ k, k ≤ W.length ∧ LInv w0 p q gp gb av f s n P u i T wr k) (fun _ wr => leastOf (LInv w0 p q gp gb av f s n P u i T wr))
  case atStart => exact ⟨_, Nat.le_refl _, HI.out⟩
  case round =>
    obtain ⟨k0, hk0l, hk0⟩ := hrel
    obtain ⟨hI, hle⟩ := leastOf_spec hk0
    obtain ⟨k, hk⟩ : ∃ k, leastOf (LInv w0 p q gp gb av f s n P u i T wr) = k := ⟨_, rfl⟩
    rw [hk] at hI hle
    have HLESS : Hid (∀ V k', LInv w0 p q gp gb av f s n P u i T V k' → k' < k → leastOf (LInv w0 p q gp gb av f s n P u i T V) < leastOf (LInv w0 p q gp gb av f s n P u i T wr)) := fun V k' h1 h2 => by
      rw [hk]
      have := (leastOf_spec h1).2
      omega
    have HKL : Hid (k ≤ W.length) := show k ≤ W.length by omega
    have hkl : k ≤ 1048576 := by have := HL.out; have := HKL.out; omega
    clear hk hk0 hle hk0l
    obtain ⟨v1, B1, W1, hW1, hs, hT, hB1, hr1⟩ := hI
    cases W1 with
    | nil =>
      have he := empty_any q 0 _ _ _ _ _ wr hs.st
      have hd0 : decide (([] : List Int).reverse.length = 0) = true := rfl
      rw [hd0] at he
      have HE := Nu.hid he
      have HEND : Hid (∃ v, SideAt w0 wr p q gp gb av f s n v P T.2 T.1) := ⟨v1, by rw [← hT]; exact hs⟩
      clear he hs hT hd0 hr1 hB1 hW1
      go_wp2_with (go_at_call 95; refine HE.out.mono ?_; rintro e w2 ⟨rfl, hw2⟩; obtain rfl := hw2.symm)
      go_end0
      exact ⟨rfl, HEND.out⟩
    | cons x W1 =>
      have hst := hs.st
      rw [List.reverse_cons] at hst
      have hlen : W1.reverse.length ≤ 17592186044000 := by rw [List.length_reverse]; simp at hW1; omega
      have he := empty_any q 0 _ _ _ _ _ wr hst
      have hd0 : decide ((W1.reverse ++ [x]).length = 0) = false := by simp
      rw [hd0] at he
      have HE := Nu.hid he
      have HTOP : Hid (Calls Tryz.prog 108 #[.pointer (some ⟨q, 0, none⟩)] wr fun e w' => e = .returned (.int .i64 x) ∧ ∃ k, w' = wr.drewN k) := top_any q 0 _ _ _ _ W1.reverse x wr hst hlen
      by_cases hx : x = u
      · have t1 : (x != u) = false := by simp [hx]
        have HEND : Hid (∀ d, ∃ v, SideAt w0 (wr.drewN d) p q gp gb av f s n v P T.2 T.1) := fun d => ⟨v1, by
          rw [← hT]
          unfold Df.leave
          rw [if_pos hx]
          exact hs.later (below_drewN (Below.refl _ _) d)⟩
        clear he hs hT hd0 hr1 hB1 hW1 hst hx
        go_wp2_with (first | (go_at_call 95; refine HE.out.mono ?_; rintro e w2 ⟨rfl, hw2⟩; obtain rfl := hw2.symm) | (go_at_call 108; refine HTOP.out.mono ?_; rintro e w3 ⟨rfl, d, rfl⟩))
        go_end0
        exact ⟨rfl, HEND.out d⟩
      · have t1 : (x != u) = true := by simp [hx]
        have hx0 := hr1 x List.mem_cons_self
        obtain ⟨y, rfl⟩ : ∃ y : Nat, x = (y : Int) := ⟨x.toNat, by omega⟩
        have y0 : (0 : Int) ≤ (y : Int) := by omega
        have y1 : (y : Int) < (n : Int) := by omega
        have HPOP : Hid (∀ V, Below wr.heap.size wr V → Calls Tryz.prog 109 #[.pointer (some ⟨q, 0, none⟩)] V fun e V' => e = .returned (.int .i64 (y : Int)) ∧ V'.cell? ⟨p, 6, none⟩ = some (.slice (some ⟨gb, 0, none⟩) n n) ∧ (∃ c, V'.cell? ⟨gb, y, none⟩ = some (.int .i64 c)) ∧ V'.frozen? ⟨gb, y, none⟩ = false ∧ (V'.setCell ⟨gb, y, none⟩ (.int .i64 i)).cell? ⟨p, 6, none⟩ = some (.slice (some ⟨gb, 0, none⟩) n n) ∧ LInv w0 p q gp gb av f s n P u i T (V'.setCell ⟨gb, y, none⟩ (.int .i64 i)) W1.length) := fun V hV => by
          have hsV := hs.later hV
          have hstV := hst.later hV
          refine (pop_any q 0 _ _ _ _ W1.reverse (y : Int) V hstV hlen).mono ?_
          intro e V' hp
          obtain ⟨v2, h2⟩ := hsV.popped hp
          have h3 := h2.setB y i
          refine ⟨hp.1, h2.rd.c6, ⟨_, h2.ib.cell (getD_of (-1) (by omega : y < B1.length))⟩, h2.ib.free y, h3.rd.c6, v2, B1.set y i, W1, rfl, h3, ?_, by simp [hB1], fun z hz => hr1 z (List.mem_cons_of_mem _ hz)⟩
          rw [← hT]
          conv => rhs; unfold Df.leave
          rw [if_neg hx, Int.toNat_natCast]
        have HS : Hid (∀ V, Below wr.heap.size wr V → V.cell? ⟨p, 6, none⟩ = some (.slice (some ⟨gb, 0, none⟩) n n)) := fun V hV => (hs.later hV).rd.c6
        have HLT : Hid (W1.length < k) := show W1.length < k by simp at hW1; omega
        clear he hs hT hd0 hr1 hB1 hW1 hst hx hlen hx0
        go_wp2_with (first | (go_at_call 95; refine HE.out.mono ?_; rintro e w2 ⟨rfl, hw2⟩; obtain rfl := hw2.symm) | (go_at_call 108; refine HTOP.out.mono ?_; rintro e w3 ⟨rfl, d, rfl⟩))
        have hbd : Below wr.heap.size wr (wr.drewN d).drew := (below_drewN (Below.refl _ _) _).drew
        have hbe : Below wr.heap.size wr (wr.drewN (d + 1)) := below_drewN (Below.refl _ _) _
        go_region_held3 (fun V => V.cell? ⟨p, 6, none⟩ = some (.slice (some ⟨gb, 0, none⟩) n n))
          (first | assumption | exact HS.out _ (by first | assumption | exact hbd | exact hbe))
          ((go_at_call 109; refine (HPOP.out _ (by first | assumption | exact hbd | exact hbe)).mono ?_; rintro e V1 ⟨rfl, q1, ⟨c1, q2⟩, q3, q4, q5⟩))
        all_goals
          have Q5 := Nu.hid q5
          clear q5
          go_wp2
          go_roundw
          case rel => exact ⟨_, by have := HKL.out; have := HLT.out; omega, Q5.out⟩
          case measure => exact HLESS.out _ _ Q5.out HLT.out
end

end Go.Proofs.YtmgoahbloppdmaaGreat

/-
  The vertices below each stand side by side: sideBySide.
-/
namespace Go.Proofs.YtmgoahbloppdmaaGreat
open Go.RowKit

/-- What sideBySide does. -/
def SidePost (w0 : World) (p gp : Nat) (av : Value) (f : For) (s : Df.St) (n : Nat) (es : List (Int × Int)) (P : List Int) (e : Ending) (w' : World) : Prop :=
  (∃ gb W B, e = .returned (.bool true) ∧ Df.side n es s n = some (W, B) ∧ ReadAt w0 w' p av f s (.slice (some ⟨gp, 0, none⟩) n n) (.slice (some ⟨gb, 0, none⟩) n n) ∧ IntsBlk w' gp P ∧ IntsBlk w' gb (Df.ends n W B)) ∨ (e = .returned (.bool false) ∧ Df.side n es s n = none ∧ Below w0.heap.size w0 w')

section
variable {w0 w : World} {p gp : Nat} {av : Value} {f : For} {s : Df.St} {pv bv : Value} {n : Nat} {es : List (Int × Int)} {P : List Int}

set_option maxRecDepth 100000 in
set_option maxHeartbeats 16000000 in
theorem sideBySide_any (hadj : IsAdj w0 av n es) (hF : LstF w0 f s) (hL : Df.Lens n es s) (ho : Df.Once n s n) (h : ReadAt w0 w p av f s (.slice (some ⟨gp, 0, none⟩) n n) bv) (hip : IntsBlk w gp P) (hne : gp ≠ p) (hlg : w0.heap.size ≤ gp) :
    Calls Tryz.prog 73 #[.pointer (some ⟨p, 0, none⟩)] w (SidePost w0 p gp av f s n es P) := by
  obtain ⟨i0, hi, hz0, hz1, hz2⟩ := info_parts Tryz.infoNum
  obtain ⟨hbn, hbm⟩ := hadj.bounds
  obtain ⟨l1, l2, l3, l4⟩ := hL
  obtain ⟨a1, a2, a3, a4, k1, k2, k3, k4⟩ := f
  have hav : ∃ q, av = .pointer q := by
    rcases hadj with ⟨h, _⟩ | ⟨_, p, h, _⟩
    · exact ⟨_, h⟩
    · exact ⟨_, h⟩
  obtain ⟨qa, rfl⟩ := hav
  have c0 := h.c0
  have HN := Nu.hid (aN_any (.pointer qa) n es w (hadj.later h.bel))
  have hmk : ∀ V, (Instr.makeSlice 25 (.int .i64 (n : Int)) (.int .i64 (n : Int))).run Tryz.prog V = .ok (.slice (some ⟨V.heap.size, 0, none⟩) n n) (V.alloc (.cells (madeCells #[.int .i64 0] n) 3)) := fun V => by
    have := run_make (P := Tryz.prog) V 25 3 i0 (.int .i64 0) Tryz.underlying25 hi hz0 .i64 .i64 (n : Int) (n : Int) (by omega) (Int.le_refl _) (by rw [hz2]; omega) (by omega)
    rw [this, hz1]
    simp [Value.cells]
  -- the ends, the way
  have hlp := h.lt
  have hlgp := hip.lt
  have f6 := h.free 6
  have c6 := h.c6
  obtain ⟨w1, hw1⟩ : ∃ w1, w1 = w.setCell ⟨p, 6, none⟩ (.slice (some ⟨w.heap.size, 0, none⟩) n n) := ⟨_, rfl⟩
  have h1 := h.setB (.slice (some ⟨w.heap.size, 0, none⟩) n n)
  have hip1 := hip.set_far (i := 6) (b := p) hne (.slice (some ⟨w.heap.size, 0, none⟩) n n)
  rw [← hw1] at h1 hip1
  have hs1 : w1.heap.size = w.heap.size := by rw [hw1]; simp
  obtain ⟨w2, hw2⟩ : ∃ w2, w2 = w1.alloc (.cells (madeCells #[.int .i64 0] n) 3) := ⟨_, rfl⟩
  have hb2 : Below w1.heap.size w1 w2 := by rw [hw2]; exact (Below.refl _ _).alloc (Nat.le_refl _) _
  have hib2 : IntsBlk w2 w.heap.size (List.replicate n 0) := by
    unfold IntsBlk
    rw [hw2, alloc_at hs1, ← made_zeros]
  have h2 := h1.later hb2
  have hip2 := hip1.later hb2
  obtain ⟨w3, hw3⟩ : ∃ w3, w3 = w2.alloc (.cells #[.slice none 0 0] 116) := ⟨_, rfl⟩
  have hb3 : Below w2.heap.size w2 w3 := by rw [hw3]; exact (Below.refl _ _).alloc (Nat.le_refl _) _
  have hs2 : w2.heap.size = w.heap.size + 1 := by rw [hw2]; simp [hs1]
  have hsz0 := h.bel.size
  have hside : SideAt w0 w3 p (w.heap.size + 1) gp w.heap.size (.pointer qa) ⟨a1, a2, a3, a4, k1, k2, k3, k4⟩ s n (.slice none 0 0) P (List.replicate n 0) [] := by
    refine ⟨h2.later hb3, hip2.later hb3, hib2.later hb3, ⟨?_, rfl, .nil _ _, by simp [Value.ownBlock]⟩, ⟨Ne.symm hne, by omega, by omega, by omega, by omega, by omega⟩, ⟨hlg, hsz0, by omega⟩, by simp [Value.ownBlock]⟩
    rw [hw3]
    exact alloc_at hs2
  have c3 := hside.rd.c3
  have HSIDE := Nu.hid hside
  have HW1 := Nu.hid hw1
  have HW2 := Nu.hid hw2
  have HW3 := Nu.hid hw3
  have HADJ := Nu.hid hadj
  have HF := Nu.hid hF
  have HO := Nu.hid ho
  dsimp only at c3
  rw [hw3, hw2, hw1] at c3
  clear hadj hF ho h hip h1 hip1 hb2 h2 hib2 hip2 hb3 hside hw1 hw2 hw3
  go_enter Tryz.func73, Tryz.ntmps73
  go_wp2_with (go_at_call 38; refine HN.out.mono ?_; rintro e w4 ⟨rfl, hw4⟩; obtain rfl := hw4.symm)
  rw [← HW1.out, ← HW2.out, ← HW3.out]
  obtain ⟨Q, hQ⟩ : ∃ Q, w.heap.size + 1 = Q := ⟨_, rfl⟩
  obtain ⟨gb, hgb⟩ : ∃ gb, w.heap.size = gb := ⟨_, rfl⟩
  rw [hgb] at hQ
  rw [hgb, hQ] at HSIDE ⊢
  clear hmk c0 c6 f6 c3 HW1 HW2 HW3
  go_loopw [22] (fun c wr => ∃ (k : Nat) (W B : List Int) (v : Value), k ≤ n ∧ c = .int .i64 k ∧ Df.side n es s k = some (W, B) ∧ SideAt w0 wr p Q gp gb (.pointer qa) ⟨a1, a2, a3, a4, k1, k2, k3, k4⟩ s n v P B W) (fun c _ => n - (intOf c).toNat)
  case atStart => exact ⟨0, [], List.replicate n 0, _, Nat.zero_le _, rfl, rfl, HSIDE.out⟩
  case round =>
    obtain ⟨k, W, B, v, hk, rfl, hsd, hs⟩ := hrel
    obtain ⟨hrg, hWl, hBl⟩ := Df.side_range HO.out hk hsd
    have c1 := hs.rd.c1
    have c0 := hs.rd.c0
    have c3 := hs.rd.c3
    dsimp only at c1 c3
    rw [l1] at c1
    rw [l3] at c3
    by_cases hlt : k < n
    · have hlti : (k : Int) < (n : Int) := by omega
      have hk0 : (0 : Int) ≤ (k : Int) := by omega
      have hxr := (HO.out k hlt).1
      obtain ⟨b3, o3, e3, d3⟩ := lst_at (HF.out.later hs.rd.bel).l3 (i := k) (by omega)
      dsimp only at e3
      subst e3
      obtain ⟨x, hx⟩ : ∃ x, s.ord.getD k (-1) = x := ⟨_, rfl⟩
      have hxa : Df.at_ s.ord k = x := hx
      rw [hx] at d3
      rw [hxa] at hxr
      obtain ⟨y, rfl⟩ : ∃ y : Nat, x = (y : Int) := ⟨x.toNat, by omega⟩
      have y0 : (0 : Int) ≤ (y : Int) := by omega
      have y1 : (y : Int) < (n : Int) := by omega
      obtain ⟨b1, o1, e1, d1⟩ := lst_at (HF.out.later hs.rd.bel).l1 (i := y) (by omega)
      dsimp only at e1
      subst e1
      obtain ⟨z, hz⟩ : ∃ z, s.par.getD y (-1) = z := ⟨_, rfl⟩
      rw [hz] at d1
      obtain ⟨u, hu⟩ : ∃ u, Cs.frI es z = u := ⟨_, rfl⟩
      have hup : Df.up es s (Df.at_ s.ord k) = u := by
        rw [hxa]
        unfold Df.up
        rw [Int.toNat_natCast]
        have : Df.at_ s.par y = z := hz
        rw [this, hu]
      have HFR : Hid (∀ V, Below wr.heap.size wr V → Calls Tryz.prog 41 #[.pointer qa, .int .i64 z] V fun r V' => r = .returned (.int .i64 u) ∧ V' = V) := fun V hV => by
        have := from_any (.pointer qa) n es z V (HADJ.out.later (hs.later hV).rd.bel)
        rw [hu] at this
        exact this
      have HLV : Hid (∀ V, Below wr.heap.size wr V → Calls Tryz.prog 94 #[.pointer (some ⟨p, 0, none⟩), .pointer (some ⟨Q, 0, none⟩), .int .i64 u, .int .i64 (k : Int)] V (LeavePost w0 p Q gp gb (.pointer qa) ⟨some ⟨b1, o1, none⟩, a2, some ⟨b3, o3, none⟩, a4, k1, k2, k3, k4⟩ s n P (Df.leave u k W B))) := fun V hV => leave_any u k (hs.later hV) hBl hrg (by omega)
      have hsn : Df.side n es s (k + 1) = if u ≠ -1 ∧ (Df.leave u k W B).1 = [] then none else some ((y : Int) :: (Df.leave u k W B).1, (Df.leave u k W B).2) := by
        conv => lhs; unfold Df.side
        rw [hsd, Option.bind_some]
        dsimp only
        rw [hup, hxa]
      have hTl : (Df.leave u k W B).1.length ≤ k := by
        obtain ⟨X, hX, _, _⟩ := Df.leave_way (p := u) (i := (k : Int)) W B
        have := congrArg List.length hX
        rw [List.length_append] at this
        omega
      obtain ⟨T, hT⟩ : ∃ T, Df.leave u k W B = T := ⟨_, rfl⟩
      rw [hT] at HLV hsn hTl
      have HSN := Nu.hid hsn
      clear hT hsn hup hu hz hx hxa hxr hrg hWl hBl hsd hs c3
      go_wp2_with fail
      go_quiet ((go_at_call 41; exact Calls.quiet_of_same (HFR.out _ (below_drewN (Below.refl _ _) _))))
      go_wp2_with (go_at_call 94; refine (HLV.out _ (below_drewN (Below.refl _ _) _)).mono ?_; rintro e w5 ⟨rfl, v5, h5⟩; refine Hid.out ?_)
      refine Nu.hid ?_
      have hem := empty_any Q 0 _ _ _ _ _ w5 h5.st
      have hpu := (push_any Q 0 _ _ _ _ T.1.reverse (y : Int) w5 h5.st h5.rd.bel.size (by rw [List.length_reverse]; omega)).mono (R' := fun e w' => e = .returned (.tuple #[]) ∧ ∃ v', SideAt w0 w' p Q gp gb (.pointer qa) ⟨some ⟨b1, o1, none⟩, a2, some ⟨b3, o3, none⟩, a4, k1, k2, k3, k4⟩ s n v' P T.2 ((y : Int) :: T.1)) (fun e w' hp => ⟨hp.1, h5.pushed hp⟩)
      have HPU := Nu.hid hpu
      have HBEL := Nu.hid h5.rd.bel
      by_cases hu1 : u = -1
      · have t1 : (u != -1) = false := by simp [hu1]
        have HNX := Nu.hid (HSN.out.trans (if_neg (fun h => h.1 hu1)))
        clear hem hpu h5 hu1
        go_wp2_with (go_at_call 96; refine HPU.out.mono ?_; rintro e w6 ⟨rfl, v6, h6⟩; have H6 := Nu.hid h6; clear h6)
        go_roundw
        case rel => exact ⟨k + 1, _, _, v6, by omega, by go_num, HNX.out, H6.out⟩
        case measure => simp [intOf]; omega
      · have t1 : (u != -1) = true := by simp [hu1]
        by_cases hTe : T.1 = []
        · have hd : decide (T.1.reverse.length = 0) = true := by simp [hTe]
          rw [hd] at hem
          have HEM := Nu.hid hem
          have HNX : Hid (Df.side n es s n = none) := by
            have e1 : Df.side n es s (k + 1) = none := by rw [HSN.out, if_pos ⟨hu1, hTe⟩]
            have := Df.side_none e1 (n - (k + 1))
            rw [show k + 1 + (n - (k + 1)) = n by omega] at this
            exact this
          clear hem hpu h5 hu1 hTe hd
          go_wp2_with (go_at_call 95; refine HEM.out.mono ?_; rintro e w6 ⟨rfl, hw6⟩; obtain rfl := hw6.symm)
          go_ret
          exact .inr ⟨rfl, HNX.out, HBEL.out⟩
        · have hd : decide (T.1.reverse.length = 0) = false := by simp [hTe]
          rw [hd] at hem
          have HEM := Nu.hid hem
          have HNX := Nu.hid (HSN.out.trans (if_neg (fun h => hTe h.2)))
          clear hem hpu h5 hu1 hTe hd
          go_wp2_with (first | (go_at_call 95; refine HEM.out.mono ?_; rintro e w6 ⟨rfl, hw6⟩; obtain rfl := hw6.symm) | (go_at_call 96; refine HPU.out.mono ?_; rintro e w6 ⟨rfl, v6, h6⟩; have H6 := Nu.hid h6; clear h6))
          go_roundw
          case rel => exact ⟨k + 1, _, _, v6, by omega, by go_num, HNX.out, H6.out⟩
          case measure => simp [intOf]; omega
    · have hd : ¬ ((k : Int) < (n : Int)) := by omega
      obtain rfl : k = n := by omega
      have HLV := Nu.hid (leave_any (-1) (k : Int) hs hBl hrg (by omega))
      have HSD := Nu.hid hsd
      have HTE : Hid ((Df.leave (-1) (k : Int) W B).2 = Df.ends k W B) := rfl
      clear hs hsd hrg hBl hWl
      go_wp2_with (go_at_call 94; refine HLV.out.mono ?_; rintro e w5 ⟨rfl, v5, h5⟩; have H5 := Nu.hid h5; clear h5)
      go_ret
      exact .inl ⟨gb, W, B, rfl, HSD.out, H5.out.rd, H5.out.ip, H5.out.ib⟩
end

end Go.Proofs.YtmgoahbloppdmaaGreat

/-
  Above, by places; the edges held against the forest.
-/
namespace Go.Proofs.YtmgoahbloppdmaaGreat
open Go.RowKit

/-- A reading with its places and ends. -/
structure Full (w0 w : World) (p gp gb : Nat) (av : Value) (f : For) (s : Df.St) (n : Nat) (P E : List Int) : Prop where
  rd : ReadAt w0 w p av f s (.slice (some ⟨gp, 0, none⟩) n n) (.slice (some ⟨gb, 0, none⟩) n n)
  ip : IntsBlk w gp P
  ib : IntsBlk w gb E
  lp : P.length = n
  le : E.length = n

section
variable {w0 w : World} {p gp gb : Nat} {av : Value} {f : For} {s : Df.St} {n : Nat} {es : List (Int × Int)} {P E : List Int}

theorem Full.later {w' : World} (h : Full w0 w p gp gb av f s n P E) (hb : Below w.heap.size w w') : Full w0 w' p gp gb av f s n P E := ⟨h.rd.later hb, h.ip.later hb, h.ib.later hb, h.lp, h.le⟩

set_option maxRecDepth 100000 in
set_option maxHeartbeats 8000000 in
theorem rabove_any (u v : Nat) (h : Full w0 w p gp gb av f s n P E) (hu : u < n) (hv : v < n) :
    Calls Tryz.prog 97 #[.pointer (some ⟨p, 0, none⟩), .int .i64 (u : Int), .int .i64 (v : Int)] w (BoolPost (Df.at_ P u ≤ Df.at_ P v ∧ Df.at_ P v < Df.at_ E u) w) := by
  have c5 := h.rd.c5
  have c6 := h.rd.c6
  have d1 := h.ip.cell (getD_of (-1) (by rw [h.lp]; exact hu : u < P.length))
  have d2 := h.ip.cell (getD_of (-1) (by rw [h.lp]; exact hv : v < P.length))
  have d3 := h.ib.cell (getD_of (-1) (by rw [h.le]; exact hu : u < E.length))
  obtain ⟨x, hx⟩ : ∃ x, P.getD u (-1) = x := ⟨_, rfl⟩
  obtain ⟨y, hy⟩ : ∃ y, P.getD v (-1) = y := ⟨_, rfl⟩
  obtain ⟨z, hz⟩ : ∃ z, E.getD u (-1) = z := ⟨_, rfl⟩
  rw [hx] at d1
  rw [hy] at d2
  rw [hz] at d3
  have HQ : Hid ((Df.at_ P u ≤ Df.at_ P v ∧ Df.at_ P v < Df.at_ E u) ↔ (x ≤ y ∧ y < z)) := by
    show (P.getD u (-1) ≤ P.getD v (-1) ∧ P.getD v (-1) < E.getD u (-1)) ↔ _
    rw [hx, hy, hz]
  have u0 : (0 : Int) ≤ (u : Int) := by omega
  have u1 : (u : Int) < (n : Int) := by omega
  have v0 : (0 : Int) ≤ (v : Int) := by omega
  have v1 : (v : Int) < (n : Int) := by omega
  by_cases hxy : x ≤ y
  · by_cases hyz : y < z
    · have HR := Nu.hid (And.intro hxy hyz)
      clear h hx hy hz
      go_enter Tryz.func97, Tryz.ntmps97
      go_wp2_with fail
      go_quiet (fail)
      go_wp2
      go_ret
      exact ⟨true, rfl, by rw [HQ.out]; exact ⟨fun _ => HR.out, fun _ => rfl⟩, below_drewN (Below.refl _ _) _⟩
    · have hd : decide (y < z) = false := by simp only [decide_eq_false_iff_not]; exact hyz
      have HR := Nu.hid hyz
      clear h hx hy hz hyz
      go_enter Tryz.func97, Tryz.ntmps97
      go_wp2_with fail
      go_quiet (fail)
      go_wp2
      go_ret
      exact ⟨false, rfl, by rw [HQ.out]; exact ⟨fun h => (by cases h), fun h => (by have h1 := HR.out; have h2 := h.2; omega)⟩, below_drewN (Below.refl _ _) _⟩
  · have hd : decide (x ≤ y) = false := by simp only [decide_eq_false_iff_not]; exact hxy
    have HR := Nu.hid hxy
    clear h hx hy hz hxy
    go_enter Tryz.func97, Tryz.ntmps97
    go_wp2_with fail
    go_quiet (fail)
    go_wp2
    go_ret
    exact ⟨false, rfl, by rw [HQ.out]; exact ⟨fun h => (by cases h), fun h => (by have h1 := HR.out; have h2 := h.1; omega)⟩, below_drewN (Below.refl _ _) _⟩
end

end Go.Proofs.YtmgoahbloppdmaaGreat
