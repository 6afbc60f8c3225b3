/-
  Proved: for every number and every list of pairs the law CompsJoins answers true, and the list reads afterwards as before. No condition.
-/
import Derived.Test.YtoaaihbeehpgfaaCoFixed
import Derived.Test.YtoaaihbeehpgfaaCoTells
import Derived.Test.YtoaaihbeehpgfaaCoRGrp
import Derived.Test.YtoaaihbeehpgfaaCoPair
import Derived.Test.YtoaaihbeehpgfaaSiOwn
import Derived.Test.YtoaaihbeehpgfaaSiTake
import Derived.Deep.RegionHeld3
import Derived.Deep.CutBlock
import Derived.Deep.CutRange
namespace Go.Proofs.Ytoaaihbeehpgfaa
open Go.ChangeShapes Go.WideShapes Go.ChangeAt Go.RowKit
namespace lawJoins

/-- What stands behind a Join, while the law makes lists. -/
structure After (J : Nat) (x y : Int) (Q : Option (Nat × Nat × Nat)) (K : Nat) (M : Nat → Nat) (ro : Option Addr) (w : World) (B : Nat) (V : World) : Prop where
  sets : SetsQ V Q K M
  ref : RefAt V ro K M
  below : Below w.heap.size w V
  c0 : V.cell? ⟨J, 0, none⟩ = some (.int .i64 x)
  c1 : V.cell? ⟨J, 1, none⟩ = some (.int .i64 y)
  sz : B ≤ V.heap.size
  inB : ∀ b, inQ Q b → b < B
  roB : 0 < K → ∀ a, ro = some a → a.block < B
  jB : J < B
  wB : w.heap.size ≤ B

section
variable {J : Nat} {x y : Int} {Q : Option (Nat × Nat × Nat)} {K : Nat} {M : Nat → Nat} {ro : Option Addr} {w : World} {B : Nat} {V V' : World}
theorem After.same (h : After J x y Q K M ro w B V) (hs : V.heap.size ≤ V'.heap.size) (hk : ∀ k, k < B → V'.heap[k]? = V.heap[k]?) (hb : Below w.heap.size w V') : After J x y Q K M ro w B V' := by
  refine ⟨?_, fun j z hz => ?_, hb, (World.cell?_of_block (w := V) (a := ⟨J, 0, none⟩) (hk J h.jB)).trans h.c0, (World.cell?_of_block (w := V) (a := ⟨J, 1, none⟩) (hk J h.jB)).trans h.c1, Nat.le_trans h.sz hs, h.inB, h.roB, h.jB, h.wB⟩
  · have hin := h.inB
    have hset := h.sets
    rcases Q with _ | ⟨p, gp, gt⟩
    · exact hset
    · exact SetsOf.same hset (fun k hkk _ => hk k (hin k hkk))
  · obtain ⟨b, o, e, hc⟩ := h.ref j z hz
    have hK : 0 < K := by
      have := (List.getElem?_eq_some_iff.1 hz).1
      rw [Co.ints_length] at this
      omega
    refine ⟨b, o, e, ?_⟩
    rw [← hc]
    exact World.cell?_of_block (w := V) (a := ⟨b, o + j, none⟩) (hk b (h.roB hK _ e))
theorem After.later (h : After J x y Q K M ro w B V) (hb : Below V.heap.size V V') : After J x y Q K M ro w B V' :=
  h.same hb.size (fun k hk => hb.block k (Nat.lt_of_lt_of_le hk h.sz)) (h.below.trans (hb.mono (Nat.le_trans h.wB h.sz)))
theorem After.alloc (h : After J x y Q K M ro w B V) (o : Obj) : After J x y Q K M ro w B (V.alloc o) := h.later ((Below.refl _ _).alloc (Nat.le_refl _) _)
theorem After.grown {r : Option Nat} (h : After J x y Q K M ro w B V) (hg : V.grownBy V' r) (hr : ∀ g, r = some g → B ≤ g) : After J x y Q K M ro w B V' :=
  h.same hg.size (fun k hk => hg.block k (Nat.lt_of_lt_of_le hk h.sz) (fun e => by have := hr k e.symm; omega)) (h.below.grown hg (Nat.le_trans h.wB h.sz) (fun g hg => Nat.le_trans h.wB (hr g hg)))
end

/-- A short list of ints of its own. -/
def FewAt (w : World) (B : Nat) (v : Value) (p : Nat) (l : List Int) : Prop := l.length = p ∧ p ≤ 15 ∧ w.ownsRow B 3 1 v p (l.map (Value.int .i64))

theorem few_at (n : Nat) (w : World) (hn : n ≤ 1048576) : Calls Try.prog 17 #[.int .i64 (n : Int)] w fun e w' => ∃ fo fc p l, e = .returned (.slice fo p fc) ∧ FewAt w' w.heap.size (.slice fo p fc) p l ∧ Below w.heap.size w w' :=
  (few_any n w hn).mono (by
    rintro e w' ⟨v, l, rfl, ho, hl, hb⟩
    obtain ⟨fo, fc, rfl, -, -⟩ := ho.form
    exact ⟨fo, fc, _, l, rfl, ⟨rfl, hl, ho⟩, hb⟩)

theorem FewAt.lower {w : World} {B B' : Nat} {v : Value} {p : Nat} {l : List Int} (h : FewAt w B v p l) (hB : B' ≤ B) : FewAt w B' v p l := by
  obtain ⟨h1, h2, h3⟩ := h
  subst h1
  exact ⟨rfl, h2, OwnZ.lower h3 hB⟩

theorem own_at {w : World} {B g n c : Nat} {l : List Int} (h : w.ownsRow B 3 1 (.slice (some ⟨g, 0, none⟩) n c) n (l.map (Value.int .i64))) : IntsAt w (some ⟨g, 0, none⟩) l := fun j z hz => by
  refine ⟨g, 0, rfl, ?_⟩
  have := World.ownsRow.cells h (g := g) rfl j (.int .i64 z) (by rw [List.getElem?_map, hz]; rfl)
  have e : ((⟨g, 0, none⟩ : Addr).add j) = ⟨g, 0 + j, none⟩ := by
    by_cases h0 : j = 0 <;> simp [Addr.add, h0]
  rw [e] at this
  exact this

theorem two_later {W w' : World} {k : Nat} (hk : W.heap.size = k) {a b : Value} {t : TypeId} (hb : Below (W.alloc (.cells #[a, b] t)).heap.size (W.alloc (.cells #[a, b] t)) w') : ∀ j u, [a, b][j]? = some u → w'.cell? ((⟨k, 0, none⟩ : Addr).add j) = some u := fun j u hj => by
  have h := new_two_e W k hk a b t j u hj
  exact (hb.cell (p := (⟨k, 0, none⟩ : Addr).add j) (block_lt_of_cell h)).trans h

set_option maxRecDepth 100000 in
set_option maxHeartbeats 16000000 in
theorem walk (n : Int) (ao : Option Addr) (ca : Nat) (js : List (Int × Int)) (w : World) (_ : (Lit.int .i64 n).wf = true) (hq : PairsIn w ao js.length ca js) (hle : js.length * 16 ≤ 140737488351232) :
    Calls Try.prog 4 #[.int .i64 n, .slice ao js.length ca] w fun e w' => e = .returned (.bool true) ∧ Below w.heap.size w w' := by
  obtain ⟨i0, hi0, hz0, hz1, hz2⟩ := info_parts Try.infoNum
  have HQ := Nu.hid hq
  clear hq
  go_enter Try.func4, Try.ntmps4
  go_wp2_with (go_at_call 10; refine (fixed_any _).mono ?_; rintro e w1 ⟨rfl, hb1⟩; have HB1 := Nu.hid hb1; clear hb1; refine Hid.out ?_)
  refine Nu.hid ?_
  go_upto_region 3 with fail
  go_cut [20] from 15 to 20 (fun x wr => ∃ t : Bool, x = .bool t ∧ wr = w1)
  case first =>
    by_cases g1 : 3000 < n
    · by_cases g2 : n ≤ 1048576
      · go_wp2
        go_meet
        exact ⟨_, rfl, by first | rfl | trivial⟩
      · go_wp2
        go_meet
        exact ⟨_, rfl, by first | rfl | trivial⟩
    · go_wp2
      go_meet
      exact ⟨_, rfl, by first | rfl | trivial⟩
  case rest =>
  obtain ⟨t, rfl, hwc⟩ := hcut
  obtain rfl := hwc.symm
  go_upto_if 20 with fail
  go_cut [0] from 20 to 22 (fun x wr => ∃ n' : Int, x = .int .i64 n' ∧ wr = w1)
  case first =>
    cases t
    · go_wp2
      go_meet
      exact ⟨_, rfl, by first | rfl | trivial⟩
    · go_wp2
      go_meet
      exact ⟨_, rfl, by first | rfl | trivial⟩
  case rest =>
  obtain ⟨n', rfl, hwc2⟩ := hcut
  obtain rfl := hwc2.symm
  clear hwc hwc2
  by_cases hv : 0 ≤ n' ∧ n' ≤ 1048576
  · obtain ⟨k, rfl⟩ : ∃ k : Nat, n' = (k : Int) := ⟨n'.toNat, by omega⟩
    have hk : k ≤ 1048576 := by omega
    have HN := Nu.hid (new_yes k w1 hk)
    have hrn : ∀ W, Calls Try.prog 13 #[.int .i64 (k : Int)] W fun e w' => ∃ ro rc, e = .returned (.tuple #[.slice ro k rc, .int .i64 0]) ∧ (RefAt w' ro k (fun x => x) ∧ ∀ z, ro = some z → W.heap.size ≤ z.block) ∧ Below W.heap.size W w' := fun W => (rnew_any k W).mono (by
      rintro e w' ⟨⟨j, v, h1, _, rfl, h4⟩ | ⟨h1, _⟩, hb⟩
      · obtain rfl : k = j := by omega
        obtain ⟨ro, rc, hv, h5, h6⟩ := h4.form
        rw [Co.ints_length] at hv
        subst hv
        exact ⟨ro, rc, rfl, ⟨h5, fun z hz => (h6 z hz).1⟩, hb⟩
      · omega)
    have HRN := Nu.hid hrn
    clear hrn
    go_wp2_with (go_at_call 9; refine HN.out.mono ?_; rintro e w2 ⟨p, gp, gt, rfl, hs2, hb2⟩; have HS2 := Nu.hid hs2; have HB2 := Nu.hid hb2; clear hs2 hb2; refine Hid.out ?_)
    refine Nu.hid ?_
    go_wp2_with (go_at_call 13; refine (HRN.out _).mono ?_; rintro e w4 ⟨ro4, rc4, rfl, hr4, hb4⟩; have HR4' := Nu.hid hr4; have HB4' := Nu.hid hb4; clear hr4 hb4; refine Hid.out ?_)
    refine Nu.hid ?_
    obtain ⟨hs2, b1, b2, b3⟩ := HS2.out
    have hq2 : SetsQ w2 (some (p, gp, gt)) k (fun x => x) := hs2
    have HQ4 := Nu.hid (hq2.later HB4'.out)
    have HR4 := Nu.hid HR4'.out.1
    have HF4 : Hid (∀ z, ro4 = some z → ¬ inQ (some (p, gp, gt)) z.block) := fun z hz hin => by
      have h1 := HR4'.out.2 z hz
      have h2 := hq2.lt hin
      omega
    have bb := HB1.out.trans (HB2.out.mono HB1.out.size)
    have HB4 := Nu.hid (bb.trans (HB4'.out.mono bb.size))
    have hs1 := HB1.out.size
    have HFB : Hid (∀ b, inQ (some (p, gp, gt)) b → w.heap.size ≤ b) := by
      rintro b (rfl | rfl | rfl) <;> omega
    clear HN HRN HS2 HB2 HR4' HB4' hq2 hs2 bb HB1
    go_wp2
    go_loopw [7, 45] (fun mv cv wr => ∃ (i : Nat) (ro : Option Addr) (rc : Nat), i ≤ js.length ∧ cv = .int .i64 (i : Int) ∧ mv = .slice ro k rc ∧ SetsQ wr (some (p, gp, gt)) k (Co.joins k (js.take i) (fun x => x)) ∧ RefAt wr ro k (Co.joins k (js.take i) (fun x => x)) ∧ (∀ z, ro = some z → ¬ inQ (some (p, gp, gt)) z.block) ∧ Below w.heap.size w wr) (fun _ cv _ => js.length - (intOf cv).toNat)
    case atStart => exact ⟨0, _, _, Nat.zero_le _, rfl, rfl, HQ4.out, HR4.out, HF4.out, HB4.out⟩
    case round =>
      obtain ⟨i, ro, rc, hi, rfl, rfl, hQ, hR, hF, hb⟩ := hrel
      obtain ⟨M, hM⟩ : ∃ M, Co.joins k (js.take i) (fun x => x) = M := ⟨_, rfl⟩
      rw [hM] at hQ hR
      by_cases hlt : i < js.length
      · have hlti : (i : Int) < (js.length : Int) := by omega
        have hi0' : (0 : Int) ≤ (i : Int) := by omega
        obtain ⟨j, hj⟩ : ∃ j, js[i]? = some j := ⟨_, List.getElem?_eq_getElem hlt⟩
        obtain ⟨b, o, rfl, c0, c1⟩ := (HQ.out.hat.later hb) i j hj
        have hbl : b < wr.heap.size := block_lt_of_cell c0
        obtain ⟨x, y⟩ := j
        dsimp only at c0 c1
        have hb0 : Below wr.heap.size wr (wr.alloc (.cells #[.int .i64 x, .int .i64 y] 34)) := (Below.refl _ _).alloc (Nat.le_refl _) _
        have hrj := rjoin_any ro k rc M x y _ (IntsAt.later hR hb0) (by omega)
        have HRJ := Nu.hid hrj
        have HQR := Nu.hid hQ
        have HFR := Nu.hid hF
        have HBR := Nu.hid hb
        have hMn : Co.joins k (js.take (i + 1)) (fun x => x) = Co.joinI k M x y := by
          rw [Si.take_snoc hj, Co.joins_snoc, hM]
        have HMN := Nu.hid hMn
        have hsz0 := hb.size
        clear hQ hR hF hb hb0 hrj hj hMn hM
        go_wp2_with (go_at_call 14; refine HRJ.out.mono ?_; rintro e w2 ⟨ro2, rc2, rfl, hr2, hb2⟩; have HR2 := Nu.hid hr2; have HB2 := Nu.hid hb2; clear hr2 hb2; refine Hid.out ?_)
        refine Nu.hid ?_
        have hs2 := HB2.out.size
        rw [World.size_alloc] at hs2
        have hbw : Below wr.heap.size wr w2 := ((Below.refl _ _).alloc (Nat.le_refl _) _).trans (HB2.out.mono (by simp))
        have j0 : w2.cell? ⟨wr.heap.size, 0, none⟩ = some (.int .i64 x) := (HB2.out.cell (p := ⟨wr.heap.size, 0, none⟩) (by simp)).trans (by simp)
        have j1 : w2.cell? ⟨wr.heap.size, 1, none⟩ = some (.int .i64 y) := (HB2.out.cell (p := ⟨wr.heap.size, 1, none⟩) (by simp)).trans (by simp)
        have hq2 : SetsQ w2 (some (p, gp, gt)) k M := HQR.out.later hbw
        have hlt2 : ∀ b, inQ (some (p, gp, gt)) b → b < wr.heap.size := fun b hbk => HQR.out.lt hbk
        have hf2 : ∀ z, ro2 = some z → ¬ inQ (some (p, gp, gt)) z.block := by
          rcases HR2.out.2 with e | e
          · rw [e]; exact HFR.out
          · intro z hz hin
            have h1 := e z hz
            rw [World.size_alloc] at h1
            have h2 := hlt2 _ hin
            omega
        have HF2 := Nu.hid hf2
        obtain ⟨t, ht⟩ : ∃ t, Co.apart k M x y = t := ⟨_, rfl⟩
        obtain ⟨M', hM'⟩ : ∃ M', Co.joinI k M x y = M' := ⟨_, rfl⟩
        have hjn : Calls Try.prog 15 #[.pointer (some ⟨p, 0, none⟩), .int .i64 x, .int .i64 y] w2.drew fun e w5 => e = .returned (.bool t) ∧ After wr.heap.size x y (some (p, gp, gt)) k M' ro2 w w5.heap.size w5 := by
          have := join_any (some (p, gp, gt)) k M x y w2.drew (hq2.later ((Below.refl _ _).drew))
          refine this.mono ?_
          rintro e w5 ⟨h1, h2, h3⟩
          rw [ht] at h1
          rw [hM'] at h2
          have h3' : Wrote (inQ (some (p, gp, gt))) w2 w5 := ((Wrote.refl _ w2).drew).trans h3
          have hs5 := h3'.size
          have hnj : ¬ inQ (some (p, gp, gt)) wr.heap.size := fun h => by have := hlt2 _ h; omega
          refine ⟨h1, h2, fun q z hz => ?_, ?_, ?_, ?_, Nat.le_refl _, fun b hb => h2.lt hb, fun hK a ha => ?_, by omega, by omega⟩
          · obtain ⟨b', o', e', hc⟩ := HR2.out.1 q z (by rw [hM']; exact hz)
            refine ⟨b', o', e', ?_⟩
            rw [← hc]
            exact World.cell?_of_block (w := w2) (a := ⟨b', o' + q, none⟩) (h3'.block b' (block_lt_of_cell hc) (hf2 _ e'))
          · exact (HBR.out.trans (hbw.mono hsz0)).trans (h3'.below (by omega) (fun k hk => HFB.out k hk))
          · exact (World.cell?_of_block (w := w2) (a := ⟨wr.heap.size, 0, none⟩) (h3'.block wr.heap.size (by omega) hnj)).trans j0
          · exact (World.cell?_of_block (w := w2) (a := ⟨wr.heap.size, 1, none⟩) (h3'.block wr.heap.size (by omega) hnj)).trans j1
          · obtain ⟨b', o', e', hc⟩ := HR2.out.1 0 _ (Co.ints_at hK)
            rw [ha] at e'
            cases e'
            exact Nat.lt_of_lt_of_le (block_lt_of_cell hc) hs5
        have HJN := Nu.hid hjn
        rw [ht]
        have HFEW := Nu.hid (fun V => few_at k V (by omega))
        have htl : ∀ (V : World) (B' g7 c7 p1 : Nat) (l : List Int), After wr.heap.size x y (some (p, gp, gt)) k M' ro2 w B' V → (l.length = p1 ∧ p1 ≤ 15) → V.ownsRow B' 3 1 (.slice (some ⟨g7, 0, none⟩) (p1 + 2) c7) (p1 + 2) (l.map (Value.int .i64) ++ [.int .i64 x, .int .i64 y]) →
            Calls Try.prog 16 #[.pointer (some ⟨p, 0, none⟩), .slice ro2 k rc2, .slice (some ⟨g7, 0, none⟩) (p1 + 2) c7] V fun e V' => e = .returned (.bool true) ∧ After wr.heap.size x y (some (p, gp, gt)) k M' ro2 w B' V' := fun V B' g7 c7 p1 l hA hl ho => by
          have e : l.map (Value.int .i64) ++ [.int .i64 x, .int .i64 y] = (l ++ [x, y]).map (Value.int .i64) := by simp
          rw [e] at ho
          refine (tells_any (some ⟨p, 0, none⟩) k M' ro2 rc2 (some ⟨g7, 0, none⟩) (p1 + 2) c7 (l ++ [x, y]) V hA.sets.is hA.ref (own_at ho) (by simp [hl.1]) (by have := hl.2; omega)).mono ?_
          rintro e V' ⟨h1, h2⟩
          exact ⟨h1, hA.later h2⟩
        have HTL := Nu.hid htl
        have hbd : After wr.heap.size x y (some (p, gp, gt)) k M' ro2 w 0 w2 ∨ True := .inr trivial
        have HMM := Nu.hid hM'
        clear hjn hf2 hlt2 hq2 hbw ht HRJ c0 c1 hM' htl hbd
        cases t
        all_goals
          go_wp2_with fail
          go_region_held3 (fun V => V.cell? ⟨wr.heap.size, 0, none⟩ = some (.int .i64 x) ∧ V.cell? ⟨wr.heap.size, 1, none⟩ = some (.int .i64 y))
            (first | exact ⟨j0, j1⟩ | exact ⟨hA8.c0, hA8.c1⟩ | exact ⟨hA7.c0, hA7.c1⟩ | exact ⟨hA6.c0, hA6.c1⟩ | exact ⟨(hA6.alloc _).c0, (hA6.alloc _).c1⟩ | exact ⟨hA5.c0, hA5.c1⟩ | exact ⟨(hA5.alloc _).c0, (hA5.alloc _).c1⟩)
            (first
              | (go_at_call 15; refine HJN.out.mono ?_; rintro e w5 ⟨rfl, hA5⟩)
              | (go_at_call 17; refine (HFEW.out _).mono ?_; rintro e w6 ⟨fo, fc, p1, l, rfl, hfo, hbs⟩; have hA6 : After wr.heap.size x y (some (p, gp, gt)) k M' ro2 w w5.heap.size w6 := (by first | exact hA5.later hbs | exact (hA5.alloc _).later hbs); have hf6 : FewAt w6 w5.heap.size (.slice fo p1 fc) p1 l := (by first | exact hfo | exact hfo.lower (by simp)); have hT6 : True ∨ True := .inl trivial)
              | (rw [if_pos (by rfl)]; refine wp_append_own _ _ _ 30 (by rfl) w5.heap.size 3 i0 (.int .i64 0) 1 8 Try.underlying30 hi0 hz0 hz1 hz2 rfl (by decide) (.slice fo p1 fc) p1 (l.map (Value.int .i64)) (by rfl) (by first | exact hf6.2.2 | exact World.ownsRow.alloc hf6.2.2 _) _ 2 2 [.int .i64 x, .int .i64 y] (by rfl) rfl (by first | exact two_later rfl hbs | exact new_two_e _ _ rfl _ _ _) (by simp [Value.oneCell']) (by have := hf6.2.1; unfold maxLen; omega) (by have := hf6.2.1; omega) (by first | exact hA6.sz | exact (hA6.alloc _).sz) ?_; intro v7 w7 hown7 hg7 _; obtain ⟨g7, c7, rfl⟩ := own_succ (k := p1 + 1) hown7; have hA7 : After wr.heap.size x y (some (p, gp, gt)) k M' ro2 w w5.heap.size w7 := (by first | exact (hA6.alloc _).grown hg7 (fun g hg => (World.ownsRow.lt hf6.2.2 g hg).1) | exact hA6.grown hg7 (fun g hg => (World.ownsRow.lt hf6.2.2 g hg).1)))
              | (go_at_call 16; refine (HTL.out _ _ _ _ _ _ hA7 ⟨hf6.1, hf6.2.1⟩ hown7).mono ?_; rintro e w8 ⟨rfl, hA8⟩))
          all_goals
            have HA8 := Nu.hid hA8
            clear hA5 hA6 hA7 hA8 hf6 hfo hbs hown7 hg7 HJN HFEW HTL j0 j1
            go_wp2
            go_roundw
            case rel => exact ⟨i + 1, ro2, rc2, by omega, by go_num, rfl, by rw [HMN.out, HMM.out]; exact HA8.out.sets, by rw [HMN.out, HMM.out]; exact HA8.out.ref, HF2.out, HA8.out.below⟩
            case measure => simp [intOf]; omega
      · have hd : ¬ ((i : Int) < (js.length : Int)) := by omega
        have hnorm : Co.Norm k M := by rw [← hM]; exact Co.Norm.joins _ (Co.norm_id k)
        have HFEW := Nu.hid (few_at k wr (by omega))
        have htl : ∀ (V : World) fo fc p1 l, Below wr.heap.size wr V → FewAt V wr.heap.size (.slice fo p1 fc) p1 l → Calls Try.prog 16 #[.pointer (some ⟨p, 0, none⟩), .slice ro k rc, .slice fo p1 fc] V fun e V' => e = .returned (.bool true) ∧ Below V.heap.size V V' := fun V fo fc p1 l hbV hf => by
          obtain ⟨h1, h2, h3⟩ := hf
          subst h1
          obtain ⟨fo', fc', e', hat, -⟩ := OwnZ.form h3
          cases e'
          exact tells_any (some ⟨p, 0, none⟩) k M ro rc fo l.length fc l V (hQ.later hbV).is (IntsAt.later hR hbV) hat rfl (by omega)
        have hgr : ∀ (V : World), Below wr.heap.size wr V → Calls Try.prog 19 #[.pointer (some ⟨p, 0, none⟩)] V (GrpPost k M V) := fun V hbV => groups_any (some ⟨p, 0, none⟩) k M V (hQ.later hbV).is
        have hrg : ∀ (V : World), Below wr.heap.size wr V → Calls Try.prog 20 #[.slice ro k rc] V (GrpPost k M V) := fun V hbV => rgroups_any ro k rc M V (IntsAt.later hR hbV) (by omega) hnorm
        have hgll : (Co.gl M k k).length ≤ 4611686018427387904 := by
          rw [Co.gl_length]
          have := Co.cntTo_le (Co.fix M) k
          omega
        have hgle : ∀ l ∈ Co.gl M k k, l.length ≤ 4611686018427387904 := fun l hl => by
          obtain ⟨i, _, rfl⟩ := List.mem_map.1 hl
          have := Co.mem_length M k i
          omega
        have HTL := Nu.hid htl
        have HGR := Nu.hid hgr
        have HRG := Nu.hid hrg
        have HB := Nu.hid hb
        have HGLL := Nu.hid (And.intro hgll hgle)
        clear hQ hR hF hb hM hnorm htl hgr hrg hgll hgle
        go_wp2_with (go_at_call 17; refine HFEW.out.mono ?_; rintro e w6 ⟨fo, fc, p1, l, rfl, hfo, hb6⟩; have HFO := Nu.hid hfo; have HB6 := Nu.hid hb6; clear hfo hb6; refine Hid.out ?_)
        refine Nu.hid ?_
        have HT2 := Nu.hid (HTL.out w6 fo fc p1 l HB6.out HFO.out)
        clear HTL HFEW
        go_wp2_with (go_at_call 16; refine HT2.out.mono ?_; rintro e w7 ⟨rfl, hb7⟩; have HB7 := Nu.hid hb7; clear hb7; refine Hid.out ?_)
        refine Nu.hid ?_
        have b7 := HB6.out.trans (HB7.out.mono HB6.out.size)
        have HB7' := Nu.hid b7
        have HG7 := Nu.hid (HGR.out w7 b7)
        clear HGR HT2 b7
        go_wp2_with (go_at_call 19; refine HG7.out.mono ?_; rintro e w8 ⟨v8, vs8, rfl, hr8, hb8⟩; obtain ⟨ao8, c8, hv8⟩ := row_shape hr8; have HR8 := Nu.hid hr8; have HB8 := Nu.hid hb8; have HV8 := Nu.hid hv8; clear hr8 hb8; subst hv8; refine Hid.out ?_)
        refine Nu.hid ?_
        have b8 := HB7'.out.trans (HB8.out.mono HB7'.out.size)
        have HB8' := Nu.hid b8
        have HG8 := Nu.hid (HRG.out w8 b8)
        clear HRG HG7 b8
        go_wp2_with (go_at_call 20; refine HG8.out.mono ?_; rintro e w9 ⟨v9, vs9, rfl, hr9, hb9⟩; obtain ⟨ao9, c9, hv9⟩ := row_shape hr9; have HR9 := Nu.hid hr9; have HB9 := Nu.hid hb9; clear hr9 hb9; subst hv9; refine Hid.out ?_)
        refine Nu.hid ?_
        have HSL := Nu.hid (samelists_any _ _ _ _ _ _ _ w9 (HR8.out.later HB9.out) HR9.out HGLL.out.1 HGLL.out.2)
        have b9 := HB8'.out.trans (HB9.out.mono HB8'.out.size)
        have HB9' := Nu.hid b9
        clear HG8 b9
        go_wp2_with (go_at_call 18; refine HSL.out.mono ?_; rintro e w10 ⟨rfl, hb10⟩; have HB10 := Nu.hid hb10; clear hb10)
        go_ret
        have b10 := HB9'.out.trans (HB10.out.mono HB9'.out.size)
        exact ⟨rfl, HB.out.trans (b10.mono HB.out.size)⟩
  · have hnv : n' < 0 ∨ 1048576 < n' := by omega
    have HN := Nu.hid (new_no n' w1 hnv)
    have hrn : ∀ W, Calls Try.prog 13 #[.int .i64 n'] W fun e w' => e = .returned (.tuple #[.slice none 0 0, .int .i64 2]) ∧ Below W.heap.size W w' := fun W => (rnew_any n' W).mono (by
      rintro e w' ⟨⟨j, v, h1, h2, _⟩ | ⟨_, h1⟩, hb⟩
      · omega
      · exact ⟨h1, hb⟩)
    have HRN := Nu.hid hrn
    clear hrn hv hnv
    go_wp2_with (go_at_call 9; refine HN.out.mono ?_; rintro e w2 ⟨rfl, hb2⟩; have HB2 := Nu.hid hb2; clear hb2; refine Hid.out ?_)
    refine Nu.hid ?_
    go_wp2_with (go_at_call 13; refine (HRN.out _).mono ?_; rintro e w4 ⟨rfl, hb4⟩; have HB4' := Nu.hid hb4; clear hb4; refine Hid.out ?_)
    refine Nu.hid ?_
    have HQ4 : Hid (SetsQ w4 none 0 (fun x => x)) := rfl
    have HR4 : Hid (RefAt w4 none 0 (fun x => x)) := IntsAt.nil _ _
    have HF4 : Hid (∀ z, (none : Option Addr) = some z → ¬ inQ none z.block) := fun z hz => (by cases hz)
    have bb := HB1.out.trans (HB2.out.mono HB1.out.size)
    have HB4 := Nu.hid (bb.trans (HB4'.out.mono bb.size))
    have HFB : Hid (∀ b, inQ none b → w.heap.size ≤ b) := fun b hb => hb.elim
    clear HN HRN HB2 HB4' bb HB1
    go_wp2
    go_loopw [7, 45] (fun mv cv wr => ∃ (i : Nat) (ro : Option Addr) (rc : Nat), i ≤ js.length ∧ cv = .int .i64 (i : Int) ∧ mv = .slice ro 0 rc ∧ SetsQ wr none 0 (Co.joins 0 (js.take i) (fun x => x)) ∧ RefAt wr ro 0 (Co.joins 0 (js.take i) (fun x => x)) ∧ (∀ z, ro = some z → ¬ inQ none z.block) ∧ Below w.heap.size w wr) (fun _ cv _ => js.length - (intOf cv).toNat)
    case atStart => exact ⟨0, _, _, Nat.zero_le _, rfl, rfl, HQ4.out, HR4.out, HF4.out, HB4.out⟩
    case round =>
      obtain ⟨i, ro, rc, hi, rfl, rfl, hQ, hR, hF, hb⟩ := hrel
      obtain ⟨M, hM⟩ : ∃ M, Co.joins 0 (js.take i) (fun x => x) = M := ⟨_, rfl⟩
      rw [hM] at hQ hR
      by_cases hlt : i < js.length
      · have hlti : (i : Int) < (js.length : Int) := by omega
        have hi0' : (0 : Int) ≤ (i : Int) := by omega
        obtain ⟨j, hj⟩ : ∃ j, js[i]? = some j := ⟨_, List.getElem?_eq_getElem hlt⟩
        obtain ⟨b, o, rfl, c0, c1⟩ := (HQ.out.hat.later hb) i j hj
        have hbl : b < wr.heap.size := block_lt_of_cell c0
        obtain ⟨x, y⟩ := j
        dsimp only at c0 c1
        have hb0 : Below wr.heap.size wr (wr.alloc (.cells #[.int .i64 x, .int .i64 y] 34)) := (Below.refl _ _).alloc (Nat.le_refl _) _
        have hrj := rjoin_any ro 0 rc M x y _ (IntsAt.later hR hb0) (by omega)
        have HRJ := Nu.hid hrj
        have HQR := Nu.hid hQ
        have HFR := Nu.hid hF
        have HBR := Nu.hid hb
        have hMn : Co.joins 0 (js.take (i + 1)) (fun x => x) = Co.joinI 0 M x y := by
          rw [Si.take_snoc hj, Co.joins_snoc, hM]
        have HMN := Nu.hid hMn
        have hsz0 := hb.size
        clear hQ hR hF hb hb0 hrj hj hMn hM
        go_wp2_with (go_at_call 14; refine HRJ.out.mono ?_; rintro e w2 ⟨ro2, rc2, rfl, hr2, hb2⟩; have HR2 := Nu.hid hr2; have HB2 := Nu.hid hb2; clear hr2 hb2; refine Hid.out ?_)
        refine Nu.hid ?_
        have hs2 := HB2.out.size
        rw [World.size_alloc] at hs2
        have hbw : Below wr.heap.size wr w2 := ((Below.refl _ _).alloc (Nat.le_refl _) _).trans (HB2.out.mono (by simp))
        have j0 : w2.cell? ⟨wr.heap.size, 0, none⟩ = some (.int .i64 x) := (HB2.out.cell (p := ⟨wr.heap.size, 0, none⟩) (by simp)).trans (by simp)
        have j1 : w2.cell? ⟨wr.heap.size, 1, none⟩ = some (.int .i64 y) := (HB2.out.cell (p := ⟨wr.heap.size, 1, none⟩) (by simp)).trans (by simp)
        have hq2 : SetsQ w2 none 0 M := HQR.out.later hbw
        have hlt2 : ∀ b, inQ none b → b < wr.heap.size := fun b hbk => HQR.out.lt hbk
        have hf2 : ∀ z, ro2 = some z → ¬ inQ none z.block := by
          rcases HR2.out.2 with e | e
          · rw [e]; exact HFR.out
          · intro z hz hin
            have h1 := e z hz
            rw [World.size_alloc] at h1
            have h2 := hlt2 _ hin
            omega
        have HF2 := Nu.hid hf2
        obtain ⟨t, ht⟩ : ∃ t, Co.apart 0 M x y = t := ⟨_, rfl⟩
        obtain ⟨M', hM'⟩ : ∃ M', Co.joinI 0 M x y = M' := ⟨_, rfl⟩
        have hjn : Calls Try.prog 15 #[.pointer none, .int .i64 x, .int .i64 y] w2.drew fun e w5 => e = .returned (.bool t) ∧ After wr.heap.size x y none 0 M' ro2 w w5.heap.size w5 := by
          have := join_any none 0 M x y w2.drew (hq2.later ((Below.refl _ _).drew))
          refine this.mono ?_
          rintro e w5 ⟨h1, h2, h3⟩
          rw [ht] at h1
          rw [hM'] at h2
          have h3' : Wrote (inQ none) w2 w5 := ((Wrote.refl _ w2).drew).trans h3
          have hs5 := h3'.size
          have hnj : ¬ inQ none wr.heap.size := fun h => by have := hlt2 _ h; omega
          refine ⟨h1, h2, fun q z hz => ?_, ?_, ?_, ?_, Nat.le_refl _, fun b hb => h2.lt hb, fun hK a ha => ?_, by omega, by omega⟩
          · obtain ⟨b', o', e', hc⟩ := HR2.out.1 q z (by rw [hM']; exact hz)
            refine ⟨b', o', e', ?_⟩
            rw [← hc]
            exact World.cell?_of_block (w := w2) (a := ⟨b', o' + q, none⟩) (h3'.block b' (block_lt_of_cell hc) (hf2 _ e'))
          · exact (HBR.out.trans (hbw.mono hsz0)).trans (h3'.below (by omega) (fun k hk => HFB.out k hk))
          · exact (World.cell?_of_block (w := w2) (a := ⟨wr.heap.size, 0, none⟩) (h3'.block wr.heap.size (by omega) hnj)).trans j0
          · exact (World.cell?_of_block (w := w2) (a := ⟨wr.heap.size, 1, none⟩) (h3'.block wr.heap.size (by omega) hnj)).trans j1
          · obtain ⟨b', o', e', hc⟩ := HR2.out.1 0 _ (Co.ints_at hK)
            rw [ha] at e'
            cases e'
            exact Nat.lt_of_lt_of_le (block_lt_of_cell hc) hs5
        have HJN := Nu.hid hjn
        rw [ht]
        have HFEW := Nu.hid (fun V => few_at 0 V (by omega))
        have htl : ∀ (V : World) (B' g7 c7 p1 : Nat) (l : List Int), After wr.heap.size x y none 0 M' ro2 w B' V → (l.length = p1 ∧ p1 ≤ 15) → V.ownsRow B' 3 1 (.slice (some ⟨g7, 0, none⟩) (p1 + 2) c7) (p1 + 2) (l.map (Value.int .i64) ++ [.int .i64 x, .int .i64 y]) →
            Calls Try.prog 16 #[.pointer none, .slice ro2 0 rc2, .slice (some ⟨g7, 0, none⟩) (p1 + 2) c7] V fun e V' => e = .returned (.bool true) ∧ After wr.heap.size x y none 0 M' ro2 w B' V' := fun V B' g7 c7 p1 l hA hl ho => by
          have e : l.map (Value.int .i64) ++ [.int .i64 x, .int .i64 y] = (l ++ [x, y]).map (Value.int .i64) := by simp
          rw [e] at ho
          refine (tells_any none 0 M' ro2 rc2 (some ⟨g7, 0, none⟩) (p1 + 2) c7 (l ++ [x, y]) V hA.sets.is hA.ref (own_at ho) (by simp [hl.1]) (by have := hl.2; omega)).mono ?_
          rintro e V' ⟨h1, h2⟩
          exact ⟨h1, hA.later h2⟩
        have HTL := Nu.hid htl
        have hbd : After wr.heap.size x y none 0 M' ro2 w 0 w2 ∨ True := .inr trivial
        have HMM := Nu.hid hM'
        clear hjn hf2 hlt2 hq2 hbw ht HRJ c0 c1 hM' htl hbd
        cases t
        all_goals
          go_wp2_with fail
          go_region_held3 (fun V => V.cell? ⟨wr.heap.size, 0, none⟩ = some (.int .i64 x) ∧ V.cell? ⟨wr.heap.size, 1, none⟩ = some (.int .i64 y))
            (first | exact ⟨j0, j1⟩ | exact ⟨hA8.c0, hA8.c1⟩ | exact ⟨hA7.c0, hA7.c1⟩ | exact ⟨hA6.c0, hA6.c1⟩ | exact ⟨(hA6.alloc _).c0, (hA6.alloc _).c1⟩ | exact ⟨hA5.c0, hA5.c1⟩ | exact ⟨(hA5.alloc _).c0, (hA5.alloc _).c1⟩)
            (first
              | (go_at_call 15; refine HJN.out.mono ?_; rintro e w5 ⟨rfl, hA5⟩)
              | (go_at_call 17; refine (HFEW.out _).mono ?_; rintro e w6 ⟨fo, fc, p1, l, rfl, hfo, hbs⟩; have hA6 : After wr.heap.size x y none 0 M' ro2 w w5.heap.size w6 := (by first | exact hA5.later hbs | exact (hA5.alloc _).later hbs); have hf6 : FewAt w6 w5.heap.size (.slice fo p1 fc) p1 l := (by first | exact hfo | exact hfo.lower (by simp)); have hT6 : True ∨ True := .inl trivial)
              | (rw [if_pos (by rfl)]; refine wp_append_own _ _ _ 30 (by rfl) w5.heap.size 3 i0 (.int .i64 0) 1 8 Try.underlying30 hi0 hz0 hz1 hz2 rfl (by decide) (.slice fo p1 fc) p1 (l.map (Value.int .i64)) (by rfl) (by first | exact hf6.2.2 | exact World.ownsRow.alloc hf6.2.2 _) _ 2 2 [.int .i64 x, .int .i64 y] (by rfl) rfl (by first | exact two_later rfl hbs | exact new_two_e _ _ rfl _ _ _) (by simp [Value.oneCell']) (by have := hf6.2.1; unfold maxLen; omega) (by have := hf6.2.1; omega) (by first | exact hA6.sz | exact (hA6.alloc _).sz) ?_; intro v7 w7 hown7 hg7 _; obtain ⟨g7, c7, rfl⟩ := own_succ (k := p1 + 1) hown7; have hA7 : After wr.heap.size x y none 0 M' ro2 w w5.heap.size w7 := (by first | exact (hA6.alloc _).grown hg7 (fun g hg => (World.ownsRow.lt hf6.2.2 g hg).1) | exact hA6.grown hg7 (fun g hg => (World.ownsRow.lt hf6.2.2 g hg).1)))
              | (go_at_call 16; refine (HTL.out _ _ _ _ _ _ hA7 ⟨hf6.1, hf6.2.1⟩ hown7).mono ?_; rintro e w8 ⟨rfl, hA8⟩))
          all_goals
            have HA8 := Nu.hid hA8
            clear hA5 hA6 hA7 hA8 hf6 hfo hbs hown7 hg7 HJN HFEW HTL j0 j1
            go_wp2
            go_roundw
            case rel => exact ⟨i + 1, ro2, rc2, by omega, by go_num, rfl, by rw [HMN.out, HMM.out]; exact HA8.out.sets, by rw [HMN.out, HMM.out]; exact HA8.out.ref, HF2.out, HA8.out.below⟩
            case measure => simp [intOf]; omega
      · have hd : ¬ ((i : Int) < (js.length : Int)) := by omega
        have hnorm : Co.Norm 0 M := by rw [← hM]; exact Co.Norm.joins _ (Co.norm_id 0)
        have HFEW := Nu.hid (few_at 0 wr (by omega))
        have htl : ∀ (V : World) fo fc p1 l, Below wr.heap.size wr V → FewAt V wr.heap.size (.slice fo p1 fc) p1 l → Calls Try.prog 16 #[.pointer none, .slice ro 0 rc, .slice fo p1 fc] V fun e V' => e = .returned (.bool true) ∧ Below V.heap.size V V' := fun V fo fc p1 l hbV hf => by
          obtain ⟨h1, h2, h3⟩ := hf
          subst h1
          obtain ⟨fo', fc', e', hat, -⟩ := OwnZ.form h3
          cases e'
          exact tells_any none 0 M ro rc fo l.length fc l V (hQ.later hbV).is (IntsAt.later hR hbV) hat rfl (by omega)
        have hgr : ∀ (V : World), Below wr.heap.size wr V → Calls Try.prog 19 #[.pointer none] V (GrpPost 0 M V) := fun V hbV => groups_any none 0 M V (hQ.later hbV).is
        have hrg : ∀ (V : World), Below wr.heap.size wr V → Calls Try.prog 20 #[.slice ro 0 rc] V (GrpPost 0 M V) := fun V hbV => rgroups_any ro 0 rc M V (IntsAt.later hR hbV) (by omega) hnorm
        have hgll : (Co.gl M 0 0).length ≤ 4611686018427387904 := by
          rw [Co.gl_length]
          have := Co.cntTo_le (Co.fix M) 0
          omega
        have hgle : ∀ l ∈ Co.gl M 0 0, l.length ≤ 4611686018427387904 := fun l hl => by
          obtain ⟨i, _, rfl⟩ := List.mem_map.1 hl
          have := Co.mem_length M 0 i
          omega
        have HTL := Nu.hid htl
        have HGR := Nu.hid hgr
        have HRG := Nu.hid hrg
        have HB := Nu.hid hb
        have HGLL := Nu.hid (And.intro hgll hgle)
        clear hQ hR hF hb hM hnorm htl hgr hrg hgll hgle
        go_wp2_with (go_at_call 17; refine HFEW.out.mono ?_; rintro e w6 ⟨fo, fc, p1, l, rfl, hfo, hb6⟩; have HFO := Nu.hid hfo; have HB6 := Nu.hid hb6; clear hfo hb6; refine Hid.out ?_)
        refine Nu.hid ?_
        have HT2 := Nu.hid (HTL.out w6 fo fc p1 l HB6.out HFO.out)
        clear HTL HFEW
        go_wp2_with (go_at_call 16; refine HT2.out.mono ?_; rintro e w7 ⟨rfl, hb7⟩; have HB7 := Nu.hid hb7; clear hb7; refine Hid.out ?_)
        refine Nu.hid ?_
        have b7 := HB6.out.trans (HB7.out.mono HB6.out.size)
        have HB7' := Nu.hid b7
        have HG7 := Nu.hid (HGR.out w7 b7)
        clear HGR HT2 b7
        go_wp2_with (go_at_call 19; refine HG7.out.mono ?_; rintro e w8 ⟨v8, vs8, rfl, hr8, hb8⟩; obtain ⟨ao8, c8, hv8⟩ := row_shape hr8; have HR8 := Nu.hid hr8; have HB8 := Nu.hid hb8; have HV8 := Nu.hid hv8; clear hr8 hb8; subst hv8; refine Hid.out ?_)
        refine Nu.hid ?_
        have b8 := HB7'.out.trans (HB8.out.mono HB7'.out.size)
        have HB8' := Nu.hid b8
        have HG8 := Nu.hid (HRG.out w8 b8)
        clear HRG HG7 b8
        go_wp2_with (go_at_call 20; refine HG8.out.mono ?_; rintro e w9 ⟨v9, vs9, rfl, hr9, hb9⟩; obtain ⟨ao9, c9, hv9⟩ := row_shape hr9; have HR9 := Nu.hid hr9; have HB9 := Nu.hid hb9; clear hr9 hb9; subst hv9; refine Hid.out ?_)
        refine Nu.hid ?_
        have HSL := Nu.hid (samelists_any _ _ _ _ _ _ _ w9 (HR8.out.later HB9.out) HR9.out HGLL.out.1 HGLL.out.2)
        have b9 := HB8'.out.trans (HB9.out.mono HB8'.out.size)
        have HB9' := Nu.hid b9
        clear HG8 b9
        go_wp2_with (go_at_call 18; refine HSL.out.mono ?_; rintro e w10 ⟨rfl, hb10⟩; have HB10 := Nu.hid hb10; clear hb10)
        go_ret
        have b10 := HB9'.out.trans (HB10.out.mono HB9'.out.size)
        exact ⟨rfl, HB.out.trans (b10.mono HB.out.size)⟩

set_option maxRecDepth 100000 in
/-- What the walk gives, for every argument and every world. -/
theorem contract (H : Type) (enc : TypeId × Value → H) (W : World) (base : Nat) (args : Array Value) (ds gs : List (DataW H)) (before : List MemPlace)
    (hval : ∀ (j : Nat) t v, Try.f4.params[j]? = some t → args[j]? = some v → Value.okWide Try.prog W .any base t v)
    (hW : DataW.Whole enc Try.prog Try.f4.params.toList Rows.compsJoinsSpec.vars false W args.toList ds gs before)
    (hsz : (DataW.weightsEach Try.prog (Try.f4.params.toList ++ (OpenSpec.ofChange Rows.compsJoinsSpec).bare.plain.varTypes Try.prog) (ds ++ gs)).all (· ≤ reachBytes) = true)
    :
    Calls Try.prog 4 args W fun e W' => ∃ v, e = .returned v ∧ Rows.compsJoinsSpec.post enc Try.prog Try.f4 false true false false W args v W' := by
  have hW' := hW
  obtain ⟨p, q, hA0, hV, rfl, hfz, hnd⟩ := hW
  have hA : DataW.TrodAll enc Try.prog W 0 (fun _ => true) true Try.f4.params.toList args.toList ds p := hA0
  rw [Try.params4] at hA hval hsz
  obtain ⟨v0, vs0, d0, ds0, p0, q0, hargs, rfl, rfl, h0, r0⟩ := trodAll_cons hA
  obtain ⟨v1, vs1, d1, ds1, p1, q1, rfl, rfl, rfl, h1, r1⟩ := trodAll_cons r0
  obtain ⟨rfl, rfl, rfl⟩ := trodAll_nil r1
  obtain rfl : args = #[v0, v1] := by cases args; simp_all
  obtain ⟨rfl, rfl⟩ := trodVars_none hV
  obtain ⟨a0, rfl, rfl, rfl, w0⟩ := open_int Try.underlying3 (hval 0 3 v0 rfl rfl) h0
  obtain ⟨a1, len1, cap1, rfl⟩ := okWide_slice Try.underlying29 (hval 1 29 v1 rfl rfl)
  have k1 := h1
  have lt1 : ∀ x ∈ p1, x.block < W.heap.size := by obtain ⟨m, hm⟩ := k1; exact DataW.trod_lt m _ _ _ hm
  obtain ⟨q1, w1, u1⟩ := prs_of_trod (j := 1) h1 hsz rfl rfl
  have l1 := w1.hlen
  subst l1
  clear hA0
  refine (walk a0 a1 cap1 q1 W w0 w1 u1).mono fun e W' ⟨he, bel⟩ => ?_
  subst he
  exact ⟨_, rfl, _, _, _, [], _, [], hW', trodAll_mk1 (shut_bool Try.underlying4 _), (trodAll_cons_mk (shut_int Try.underlying3 w0) (trodAll_cons_mk (Below.trod laidOut (by kernel_rfl) (of_decide_eq_true (by kernel_rfl)) k1 bel lt1) trodAll_mk0)), rfl, bel.frame _, fun h => by cases h⟩

theorem laid_met (os : Os) : laidMet Try.prog Rows.compsJoinsRow.laid ((settled os).forCall (fun _ _ => 0) ⟨#[], #[.int .i64 0, .slice none 0 0], []⟩).memory :=
  laidMet_of_run' 100 (by kernel_rfl) (by kernel_rfl)
theorem reads (os : Os) {H : Type} (enc : TypeId × Value → H) : ∃ places, DataW.whole enc Try.prog ((settled os).forCall (fun _ _ => 0) ⟨#[], #[.int .i64 0, .slice none 0 0], []⟩).memory Try.f4.params.toList Rows.compsJoinsSpec.vars false (#[.int .i64 0, .slice none 0 0] : Array Value).toList 8 = some ([.lit (.int .i64 0), .nil], [], places) :=
  ⟨[], by kernel_rfl⟩

set_option maxRecDepth 100000 in
theorem lifted (os : Os) (started : os.Started) (H : Type) (enc : TypeId × Value → H) (F : Stop.Interp) :
    ReturnsInHanded {} Try.checked os 4 .any ((OpenSpec.ofChange Rows.compsJoinsSpec).preRow enc Try.prog Try.f4 Rows.compsJoinsRow.domain false Rows.compsJoinsRow.laid) (((OpenSpec.ofChange Rows.compsJoinsSpec).at F).post enc Try.prog Try.f4 false true false false) := by
  obtain ⟨places, hx⟩ := reads os enc
  refine returnsInHanded_of_row (C := Try.checked) (s := (OpenSpec.ofChange Rows.compsJoinsSpec)) own started (by kernel_rfl) Try.func4
    (witness_row_at (enc := enc) (C := Try.checked) false (settled os) #[.int .i64 0, .slice none 0 0] rfl (by kernel_rfl) (by kernel_rfl) (by kernel_rfl)
      (OpenSpec.preRow_of_cond 8 hx (by kernel_rfl) (fun k hk => by cases hk) (by kernel_rfl) (laid_met os))) ?_
  intro W base args ds gs before hval hW _ _ hsz _ _ _
  exact contract H enc W base args ds gs before hval hW hsz 

theorem said : Rows.CompsJoinsSaid :=
  OpenClaim.holds_of_cond 4 Try.f4 rfl rfl rfl rfl rfl rfl rfl ⟨rfl, rfl, rfl, rfl, rfl⟩ rfl rfl rfl rfl rfl (by kernel_rfl) Try.func4 (by kernel_rfl)
    (of_decide_eq_true (by kernel_rfl)) (by unfold Func.isWrapper; first | (rw [if_pos (by decide +kernel)]; kernel_rfl) | (rw [if_neg (by decide +kernel)]; exact ⟨rfl, rfl⟩))
    (fun os started H enc _ F => by rw [OpenClaim.pre_eq_preRow]; exact lifted os started H enc F)

end lawJoins

theorem compsJoins_holds : Rows.CompsJoinsSaid := lawJoins.said

#print axioms compsJoins_holds
end Go.Proofs.Ytoaaihbeehpgfaa
