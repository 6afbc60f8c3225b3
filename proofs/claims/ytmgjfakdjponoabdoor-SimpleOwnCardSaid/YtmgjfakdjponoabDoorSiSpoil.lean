/-
  A list of edges of one's own, written over and then grown: nothing else is written.
-/
import Derived.Test.YtmgjfakdjponoabDoorSiOwn
import Derived.Test.YtmgjfakdjponoabDoorSiTwo
import Derived.Maps.AppendAt
import Derived.Maps.Range
namespace Go.Proofs.YtmgjfakdjponoabDoor
open Go.RowKit

/-- A row of n edges at ⟨g, o⟩ with the cells xs, laid since block B. -/
def ER (w : World) (B g o n cap : Nat) (xs : List Value) : Prop := o = 0 ∧ w.ownsRow B 52 2 (.slice (some ⟨g, o, none⟩) n cap) n xs

theorem ER.cell {w : World} {B g o n cap : Nat} {xs : List Value} (h : ER w B g o n cap xs) {i : Nat} {u : Value} (hu : xs[i]? = some u) : w.cell? ⟨g, o + i, none⟩ = some u := by
  obtain ⟨rfl, h⟩ := h
  have := World.ownsRow.cells h (g := g) rfl i u hu
  rw [addrE] at this
  rw [Nat.zero_add]
  exact this

theorem ER.free {w : World} {B g o n cap : Nat} {xs : List Value} (h : ER w B g o n cap xs) : ∀ i, w.frozen? ⟨g, i, none⟩ = false := by
  obtain ⟨rfl, h⟩ := h
  exact fun i => h.frozenAt i

theorem ER.set {w : World} {B g o n cap : Nat} {xs : List Value} (h : ER w B g o n cap xs) (i : Nat) (u : Value) : ER (w.setCell ⟨g, o + i, none⟩ u) B g o n cap (xs.set i u) ∧ w.grownBy (w.setCell ⟨g, o + i, none⟩ u) (some g) := by
  obtain ⟨rfl, h⟩ := h
  refine ⟨⟨rfl, ?_⟩, ?_⟩
  · rw [Nat.zero_add]
    exact (h.stored i u).1
  · rw [Nat.zero_add]
    exact (h.stored i u).2

theorem ER.own {w : World} {B g o n cap : Nat} {ps : List (Int × Int)} (h : ER w B g o n cap (flatE ps)) (hn : ps.length = n) : OwnE w B (.slice (some ⟨g, o, none⟩) n cap) ps := by
  subst hn
  exact h.2

theorem OwnE.row {w : World} {B : Nat} {v : Value} {ps : List (Int × Int)} (h : OwnE w B v ps) (hn : 0 < ps.length) : ∃ g o cap, v = .slice (Option.some ⟨g, o, none⟩) ps.length cap ∧ ER w B g o ps.length cap (flatE ps) := by
  rcases h.2 with ⟨rfl, h0⟩ | ⟨g, cap, cur, rfl, _⟩
  · omega
  · exact ⟨g, 0, cap, rfl, rfl, h⟩

theorem ER.some {w : World} {B g o n cap : Nat} {xs : List Value} (h : ER w B g o n cap xs) {i : Nat} (hi : i < xs.length) : ∃ u, w.cell? ⟨g, o + i, none⟩ = Option.some u := ⟨_, h.cell (List.getElem?_eq_getElem hi)⟩

theorem ER.pair {w : World} {B g o n cap : Nat} {ps : List (Int × Int)} (h : ER w B g o n cap (flatE ps)) {j : Nat} (hj : j < ps.length) (p : Int × Int) :
    ER ((w.setCell ⟨g, o + j * 2, none⟩ (.int .i64 p.1)).setCell ⟨g, o + j * 2 + 1, none⟩ (.int .i64 p.2)) B g o n cap (flatE (ps.set j p)) ∧
    w.grownBy ((w.setCell ⟨g, o + j * 2, none⟩ (.int .i64 p.1)).setCell ⟨g, o + j * 2 + 1, none⟩ (.int .i64 p.2)) (Option.some g) ∧
    (∃ u, w.cell? ⟨g, o + j * 2, none⟩ = Option.some u) ∧ (∃ u, (w.setCell ⟨g, o + j * 2, none⟩ (.int .i64 p.1)).cell? ⟨g, o + j * 2 + 1, none⟩ = Option.some u) ∧
    w.frozen? ⟨g, o + j * 2, none⟩ = false ∧ (w.setCell ⟨g, o + j * 2, none⟩ (.int .i64 p.1)).frozen? ⟨g, o + j * 2 + 1, none⟩ = false := by
  have hl := flatE_length ps
  have h1 := h.set (j * 2) (.int .i64 p.1)
  have h2 := h1.1.set (j * 2 + 1) (.int .i64 p.2)
  refine ⟨?_, h1.2.trans h2.2, h.some (i := j * 2) (by omega), h1.1.some (i := j * 2 + 1) (by rw [List.length_set]; omega), h.free _, h1.1.free _⟩
  rw [flatE_set]
  exact h2.1

theorem owne_snoc {w : World} {B m : Nat} {v : Value} {ps : List (Int × Int)} {p : Int × Int} (hm : ps.length = m) (h : w.ownsRow B 52 2 v (m + 1) (flatE ps ++ [.int .i64 p.1, .int .i64 p.2])) : OwnE w B v (ps ++ [p]) := by
  subst hm
  unfold OwnE
  rw [flatE_snoc, List.length_append]
  exact h

set_option maxRecDepth 100000 in
set_option maxHeartbeats 4000000 in
theorem spoil_any (B : Nat) (v : Value) (es : List (Int × Int)) (w : World) (hown : OwnE w B v es) (hB : B ≤ w.heap.size) (hl : es.length ≤ 4194304) :
    Calls Tryd.prog 17 #[v] w fun e w' => e = .returned (.tuple #[]) ∧ w.grownBy w' v.ownBlock := by
  obtain ⟨i0, hi, hz0, hz1, hz2⟩ := info_parts Tryd.infoEdge
  obtain ⟨ao, ca, rfl, _, _, _, _⟩ := hown.form
  have HOWN := Nu.hid hown
  clear hown
  go_enter Tryd.func17, Tryd.ntmps17
  go_wp2
  go_loopw [6] (fun c wr => ∃ (k : Nat) (fs : List (Int × Int)), k ≤ es.length ∧ c = .int .i64 k ∧ fs.length = es.length ∧ OwnE wr B (.slice ao es.length ca) fs ∧ w.grownBy wr (Value.slice ao es.length ca).ownBlock) (fun c _ => es.length - (intOf c).toNat)
  case atStart => exact ⟨0, es, Nat.zero_le _, rfl, rfl, HOWN.out, World.grownBy.refl _ _⟩
  case round =>
    obtain ⟨k, fs, hk, rfl, hfl, hrow, hg⟩ := hrel
    have HROW := Nu.hid hrow
    have HG := Nu.hid hg
    have HFL := Nu.hid hfl
    by_cases hlt : k < es.length
    · have hlti : (k : Int) < (es.length : Int) := by omega
      have hk0 : (0 : Int) ≤ (k : Int) := by omega
      obtain ⟨g, o, cap, hv, her⟩ := hrow.row (by omega)
      rw [hfl] at hv her
      cases hv
      obtain ⟨R2, hg2, ⟨y1, e1⟩, ⟨y2, e2⟩, f1, f2⟩ := her.pair (j := k) (by omega) (77, 78)
      dsimp only at R2 hg2 e2 f2
      have HR2 := Nu.hid (R2.own (by rw [List.length_set]; exact hfl))
      have HG2 := Nu.hid (hg.trans (by simpa [Value.ownBlock] using hg2))
      clear R2 hg2 her hrow hg hfl
      go_wp2
      go_roundw
      case rel => exact ⟨k + 1, _, by omega, by go_num, by rw [List.length_set]; exact HFL.out, HR2.out, HG2.out⟩
      case measure => simp [intOf]; omega
    · have hd : ¬ ((k : Int) < (es.length : Int)) := by omega
      clear hrow hg hfl
      go_wp2
      go_loopw [0, 3] (fun u c wt => ∃ (j : Nat) (gs : List (Int × Int)), j ≤ 80 ∧ c = .int .i64 j ∧ gs.length = es.length + j ∧ OwnE wt B u gs ∧ w.grownBy wt (Value.slice ao es.length ca).ownBlock ∧ (∀ x, u.ownBlock = some x → w.heap.size ≤ x ∨ (Value.slice ao es.length ca).ownBlock = some x)) (fun _ c _ => 80 - (intOf c).toNat)
      case atStart => exact ⟨0, fs, Nat.zero_le _, rfl, by rw [HFL.out]; rfl, HROW.out, HG.out, fun x hx => .inr hx⟩
      case round =>
        obtain ⟨j, gs, hj, rfl, hgl, hrow, hg, hat⟩ := hrel
        have HROW2 := Nu.hid hrow
        have HG2 := Nu.hid hg
        have HGL := Nu.hid hgl
        have HAT := Nu.hid hat
        have hsz : w.heap.size ≤ wr.heap.size := hg.size
        clear hrow hg hgl hat
        by_cases hjt : j < 80
        · have hjti : (j : Int) < 80 := by omega
          go_wp2_with (at_builtin; refine wpList_append_own_at _ rfl _ _ 22 rfl B 52 i0 (.agg #[.int .i64 0, .int .i64 0]) 2 16 Tryd.underlying22 hi hz0 hz1 hz2 rfl (by decide) _ _ _ rfl (World.ownsRow.alloc HROW2.out _) ⟨wr.heap.size, 0, none⟩ 1 1 [.int .i64 79, .int .i64 80] rfl rfl (new_two_e _ _ rfl _ _ _) (by simp [Value.oneCell']) (by rw [HGL.out]; unfold maxLen; omega) (by rw [HGL.out]; omega) (by simp; omega) ?_; refine Hid.out ?_)
          refine Nu.hid ?_
          intro v' w3 hrow3 hg3 _ hat3
          have HR3 := Nu.hid (owne_snoc (ps := gs) (p := (79, 80)) rfl hrow3)
          have HG3 := Nu.hid ((HG2.out.trans (World.grownBy_alloc _ _ _)).andThen hg3 (fun x hx => HAT.out x hx))
          have HA3 : Hid (∀ x, v'.ownBlock = some x → w.heap.size ≤ x ∨ (Value.slice ao es.length ca).ownBlock = some x) := by
            intro x hx
            rcases hat3 with h | h
            · rw [h] at hx
              exact HAT.out x hx
            · rw [h] at hx
              cases hx
              exact .inl (by omega)
          clear hrow3 hg3 hat3
          go_wp2
          go_roundw
          case rel => exact ⟨j + 1, _, by omega, by go_num, by rw [List.length_append, HGL.out]; rfl, HR3.out, HG3.out, HA3.out⟩
          case measure => simp [intOf]; omega
        · have hd2 : ¬ ((j : Int) < 80) := by omega
          go_wp2
          go_end0
          exact ⟨rfl, HG2.out⟩

end Go.Proofs.YtmgjfakdjponoabDoor
