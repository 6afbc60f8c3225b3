/-
  The way from a root down, kept in memory; what is left of it.
-/
import Derived.Test.YtponmjipbcmlhaaDfOnce
import Derived.Test.YtponmjipbcmlhaaMgE
namespace Go.Proofs.Ytponmjipbcmlhaa
open Go.RowKit

/-- A reading with its places, its ends, and the way W (the last vertex first). -/
structure SideAt (w0 w : World) (p q gp gb : Nat) (av : Value) (f : For) (s : Df.St) (n : Nat) (v : Value) (P B W : List Int) : Prop where
  rd : ReadAt w0 w p av f s (.slice (some ⟨gp, 0, none⟩) n n) (.slice (some ⟨gb, 0, none⟩) n n)
  ip : IntsBlk w gp P
  ib : IntsBlk w gb B
  st : StkAt w q 0 #[v] 70 w0.heap.size v W.reverse
  ne : p ≠ gp ∧ p ≠ gb ∧ p ≠ q ∧ gp ≠ gb ∧ gp ≠ q ∧ gb ≠ q
  lo : w0.heap.size ≤ gp ∧ w0.heap.size ≤ gb ∧ w0.heap.size ≤ q
  far : v.ownBlock ≠ some p ∧ v.ownBlock ≠ some gp ∧ v.ownBlock ≠ some gb

section
variable {w0 w w' : World} {p q gp gb : Nat} {av : Value} {f : For} {s : Df.St} {n : Nat} {v : Value} {P B W : List Int}

theorem StkAt.later {b o B : Nat} {cs : Array Value} {T : TypeId} {v : Value} {K : List Int} (h : StkAt w b o cs T B v K) (hb : Below w.heap.size w w') : StkAt w' b o cs T B v K := ⟨(hb.block b h.lt).trans h.blk, h.at_, h.own.later hb, h.far⟩

theorem SideAt.later (h : SideAt w0 w p q gp gb av f s n v P B W) (hb : Below w.heap.size w w') : SideAt w0 w' p q gp gb av f s n v P B W := ⟨h.rd.later hb, h.ip.later hb, h.ib.later hb, h.st.later hb, h.ne, h.lo, h.far⟩

theorem SideAt.setB (h : SideAt w0 w p q gp gb av f s n v P B W) (u : Nat) (x : Int) : SideAt w0 (w.setCell ⟨gb, u, none⟩ (.int .i64 x)) p q gp gb av f s n v P (B.set u x) W := by
  obtain ⟨n1, n2, n3, n4, n5, n6⟩ := h.ne
  exact ⟨h.rd.set_far (Ne.symm n2) h.lo.2.1, h.ip.set_far n4 _, h.ib.set u x, ⟨(blk_same (Ne.symm n6) _).trans h.st.blk, h.st.at_, h.st.own.set_far h.far.2.2 _, h.st.far⟩, h.ne, h.lo, h.far⟩

theorem SideAt.popped {x : Int} {e : Ending} {W' : List Int} (h : SideAt w0 w p q gp gb av f s n v P B W) (hp : PopPost q 0 #[v] 70 w0.heap.size v W'.reverse x w e w') : ∃ v', SideAt w0 w' p q gp gb av f s n v' P B W' := by
  obtain ⟨_, v', hst, hat, hw⟩ := hp
  obtain ⟨n1, n2, n3, n4, n5, n6⟩ := h.ne
  have hB := h.rd.bel.size
  have keep : ∀ b, b < w.heap.size → b ≠ q → w'.heap[b]? = w.heap[b]? := fun b hb h1 => hw.block b hb h1
  exact ⟨v', ⟨h.rd.bel.trans (hw.below hB fun k hk => by subst hk; exact h.lo.2.2), (keep p h.rd.lt n3).trans h.rd.blk, h.rd.lo⟩, (keep gp h.ip.lt n5).trans h.ip, (keep gb h.ib.lt n6).trans h.ib, hst, h.ne, h.lo, by rw [hat]; exact h.far⟩

theorem SideAt.pushed {e : Ending} {x : Int} (h : SideAt w0 w p q gp gb av f s n v P B W) (hp : PushPost q 0 #[v] 70 w0.heap.size v (W.reverse ++ [x]) w e w') : ∃ v', SideAt w0 w' p q gp gb av f s n v' P B (x :: W) := by
  obtain ⟨_, v', hst, hat, hw⟩ := hp
  obtain ⟨n1, n2, n3, n4, n5, n6⟩ := h.ne
  have hB := h.rd.bel.size
  have keep : ∀ b, b < w.heap.size → b ≠ q → v.ownBlock ≠ some b → w'.heap[b]? = w.heap[b]? := fun b hb h1 h2 => hw.block b hb (fun e => e.elim h1 h2)
  have hnew : ∀ b, b < w.heap.size → v.ownBlock ≠ some b → v'.ownBlock ≠ some b := fun b hb hne e => by
    rcases hat with e1 | ⟨g, e1, hg⟩
    · exact hne (e1.symm.trans e)
    · rw [e1] at e
      have := Option.some.inj e
      omega
  refine ⟨v', ⟨h.rd.bel.trans (hw.below hB fun k hk => ?_), (keep p h.rd.lt n3 h.far.1).trans h.rd.blk, h.rd.lo⟩, (keep gp h.ip.lt n5 h.far.2.1).trans h.ip, (keep gb h.ib.lt n6 h.far.2.2).trans h.ib, ?_, h.ne, h.lo, hnew p h.rd.lt h.far.1, hnew gp h.ip.lt h.far.2.1, hnew gb h.ib.lt h.far.2.2⟩
  · rcases hk with rfl | hk
    · exact h.lo.2.2
    · exact (h.st.own.lt hk).1
  · rw [List.reverse_cons]
    exact hst

/-- The way is taken back, and this is to come of it. -/
def LInv (w0 : World) (p q gp gb : Nat) (av : Value) (f : For) (s : Df.St) (n : Nat) (P : List Int) (u i : Int) (T : List Int × List Int) (w : World) (k : Nat) : Prop :=
  ∃ v B W, W.length = k ∧ SideAt w0 w p q gp gb av f s n v P B W ∧ Df.leave u i W B = T ∧ B.length = n ∧ ∀ x ∈ W, 0 ≤ x ∧ x < (n : Int)

/-- What leave does. -/
def LeavePost (w0 : World) (p q gp gb : Nat) (av : Value) (f : For) (s : Df.St) (n : Nat) (P : List Int) (T : List Int × List Int) (e : Ending) (w' : World) : Prop :=
  e = .returned (.tuple #[]) ∧ ∃ v, SideAt w0 w' p q gp gb av f s n v P T.2 T.1

set_option maxRecDepth 100000 in
set_option maxHeartbeats 8000000 in
theorem leave_any (u i : Int) (h : SideAt w0 w p q gp gb av f s n v P B W) (hB : B.length = n) (hW : ∀ x ∈ W, 0 ≤ x ∧ x < (n : Int)) (hl : W.length ≤ 1048576) :
    Calls Try.prog 64 #[.pointer (some ⟨p, 0, none⟩), .pointer (some ⟨q, 0, none⟩), .int .i64 u, .int .i64 i] w (LeavePost w0 p q gp gb av f s n P (Df.leave u i W B)) := by
  obtain ⟨T, hT⟩ : ∃ T, Df.leave u i W B = T := ⟨_, rfl⟩
  have HI : Hid (LInv w0 p q gp gb av f s n P u i T w W.length) := ⟨v, B, W, rfl, h, hT, hB, hW⟩
  rw [hT]
  have HL := Nu.hid hl
  clear h hT hB hW hl
  go_enter Try.func64, Try.ntmps64
  go_wp2
  go_loopw [8] (fun _ wr => ∃ k, k ≤ W.length ∧ LInv w0 p q gp gb av f s n P u i T wr k) (fun _ wr => leastOf (LInv w0 p q gp gb av f s n P u i T wr))
  case atStart => exact ⟨_, Nat.le_refl _, HI.out⟩
  case round =>
    obtain ⟨k0, hk0l, hk0⟩ := hrel
    obtain ⟨hI, hle⟩ := leastOf_spec hk0
    obtain ⟨k, hk⟩ : ∃ k, leastOf (LInv w0 p q gp gb av f s n P u i T wr) = k := ⟨_, rfl⟩
    rw [hk] at hI hle
    have HLESS : Hid (∀ V k', LInv w0 p q gp gb av f s n P u i T V k' → k' < k → leastOf (LInv w0 p q gp gb av f s n P u i T V) < leastOf (LInv w0 p q gp gb av f s n P u i T wr)) := fun V k' h1 h2 => by
      rw [hk]
      have := (leastOf_spec h1).2
      omega
    have HKL : Hid (k ≤ W.length) := show k ≤ W.length by omega
    have hkl : k ≤ 1048576 := by have := HL.out; have := HKL.out; omega
    clear hk hk0 hle hk0l
    obtain ⟨v1, B1, W1, hW1, hs, hT, hB1, hr1⟩ := hI
    cases W1 with
    | nil =>
      have he := empty_any q 0 _ _ _ _ _ wr hs.st
      have hd0 : decide (([] : List Int).reverse.length = 0) = true := rfl
      rw [hd0] at he
      have HE := Nu.hid he
      have HEND : Hid (∃ v, SideAt w0 wr p q gp gb av f s n v P T.2 T.1) := ⟨v1, by rw [← hT]; exact hs⟩
      clear he hs hT hd0 hr1 hB1 hW1
      go_wp2_with (go_at_call 56; refine HE.out.mono ?_; rintro e w2 ⟨rfl, hw2⟩; obtain rfl := hw2.symm)
      go_end0
      exact ⟨rfl, HEND.out⟩
    | cons x W1 =>
      have hst := hs.st
      rw [List.reverse_cons] at hst
      have hlen : W1.reverse.length ≤ 17592186044000 := by rw [List.length_reverse]; simp at hW1; omega
      have he := empty_any q 0 _ _ _ _ _ wr hst
      have hd0 : decide ((W1.reverse ++ [x]).length = 0) = false := by simp
      rw [hd0] at he
      have HE := Nu.hid he
      have HTOP : Hid (Calls Try.prog 70 #[.pointer (some ⟨q, 0, none⟩)] wr fun e w' => e = .returned (.int .i64 x) ∧ ∃ k, w' = wr.drewN k) := top_any q 0 _ _ _ _ W1.reverse x wr hst hlen
      by_cases hx : x = u
      · have t1 : (x != u) = false := by simp [hx]
        have HEND : Hid (∀ d, ∃ v, SideAt w0 (wr.drewN d) p q gp gb av f s n v P T.2 T.1) := fun d => ⟨v1, by
          rw [← hT]
          unfold Df.leave
          rw [if_pos hx]
          exact hs.later (below_drewN (Below.refl _ _) d)⟩
        clear he hs hT hd0 hr1 hB1 hW1 hst hx
        go_wp2_with (first | (go_at_call 56; refine HE.out.mono ?_; rintro e w2 ⟨rfl, hw2⟩; obtain rfl := hw2.symm) | (go_at_call 70; refine HTOP.out.mono ?_; rintro e w3 ⟨rfl, d, rfl⟩))
        go_end0
        exact ⟨rfl, HEND.out d⟩
      · have t1 : (x != u) = true := by simp [hx]
        have hx0 := hr1 x List.mem_cons_self
        obtain ⟨y, rfl⟩ : ∃ y : Nat, x = (y : Int) := ⟨x.toNat, by omega⟩
        have y0 : (0 : Int) ≤ (y : Int) := by omega
        have y1 : (y : Int) < (n : Int) := by omega
        have HPOP : Hid (∀ V, Below wr.heap.size wr V → Calls Try.prog 57 #[.pointer (some ⟨q, 0, none⟩)] V fun e V' => e = .returned (.int .i64 (y : Int)) ∧ V'.cell? ⟨p, 6, none⟩ = some (.slice (some ⟨gb, 0, none⟩) n n) ∧ (∃ c, V'.cell? ⟨gb, y, none⟩ = some (.int .i64 c)) ∧ V'.frozen? ⟨gb, y, none⟩ = false ∧ (V'.setCell ⟨gb, y, none⟩ (.int .i64 i)).cell? ⟨p, 6, none⟩ = some (.slice (some ⟨gb, 0, none⟩) n n) ∧ LInv w0 p q gp gb av f s n P u i T (V'.setCell ⟨gb, y, none⟩ (.int .i64 i)) W1.length) := fun V hV => by
          have hsV := hs.later hV
          have hstV := hst.later hV
          refine (pop_any q 0 _ _ _ _ W1.reverse (y : Int) V hstV hlen).mono ?_
          intro e V' hp
          obtain ⟨v2, h2⟩ := hsV.popped hp
          have h3 := h2.setB y i
          refine ⟨hp.1, h2.rd.c6, ⟨_, h2.ib.cell (getD_of (-1) (by omega : y < B1.length))⟩, h2.ib.free y, h3.rd.c6, v2, B1.set y i, W1, rfl, h3, ?_, by simp [hB1], fun z hz => hr1 z (List.mem_cons_of_mem _ hz)⟩
          rw [← hT]
          conv => rhs; unfold Df.leave
          rw [if_neg hx, Int.toNat_natCast]
        have HS : Hid (∀ V, Below wr.heap.size wr V → V.cell? ⟨p, 6, none⟩ = some (.slice (some ⟨gb, 0, none⟩) n n)) := fun V hV => (hs.later hV).rd.c6
        have HLT : Hid (W1.length < k) := show W1.length < k by simp at hW1; omega
        clear he hs hT hd0 hr1 hB1 hW1 hst hx hlen hx0
        go_wp2_with (first | (go_at_call 56; refine HE.out.mono ?_; rintro e w2 ⟨rfl, hw2⟩; obtain rfl := hw2.symm) | (go_at_call 70; refine HTOP.out.mono ?_; rintro e w3 ⟨rfl, d, rfl⟩))
        have hbd : Below wr.heap.size wr (wr.drewN d).drew := (below_drewN (Below.refl _ _) _).drew
        have hbe : Below wr.heap.size wr (wr.drewN (d + 1)) := below_drewN (Below.refl _ _) _
        go_region_held3 (fun V => V.cell? ⟨p, 6, none⟩ = some (.slice (some ⟨gb, 0, none⟩) n n))
          (first | assumption | exact HS.out _ (by first | assumption | exact hbd | exact hbe))
          ((go_at_call 57; refine (HPOP.out _ (by first | assumption | exact hbd | exact hbe)).mono ?_; rintro e V1 ⟨rfl, q1, ⟨c1, q2⟩, q3, q4, q5⟩))
        all_goals
          have Q5 := Nu.hid q5
          clear q5
          go_wp2
          go_roundw
          case rel => exact ⟨_, by have := HKL.out; have := HLT.out; omega, Q5.out⟩
          case measure => exact HLESS.out _ _ Q5.out HLT.out
end

end Go.Proofs.Ytponmjipbcmlhaa
