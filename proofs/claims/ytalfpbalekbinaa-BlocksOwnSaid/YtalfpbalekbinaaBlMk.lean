/-
  What BlocksOwn wants beside: mark; edges written over.
-/
import Derived.Test.YtalfpbalekbinaaMg41
import Derived.Test.YtalfpbalekbinaaMg13
namespace Go.Proofs.Ytalfpbalekbinaa
open Go.RowKit Go.Sort

theorem Wrote.grown {S : Nat → Prop} {w V V' : World} (h : Wrote S w V) {r : Option Nat} (hg : V.grownBy V' r) (hr : ∀ b, r = some b → b < w.heap.size → S b) : Wrote S w V' :=
  ⟨hg.os.trans h.os, hg.tape.trans h.tape, hg.output.trans h.output, Nat.le_trans h.size hg.size, fun b hb hn => (hg.block b (Nat.lt_of_lt_of_le hb h.size) (fun e => hn (hr b e.symm hb))).trans (h.block b hb hn)⟩

set_option maxRecDepth 100000 in
set_option maxHeartbeats 8000000 in
theorem mark9_any (v : Value) (l : List Int) (B : Nat) (w : World) (h : OwnZ w B v l) (hB : B ≤ w.heap.size) (hl : l.length ≤ 17592186043904) :
    Calls Try.prog 24 #[v] w fun e w' => e = .returned (.tuple #[]) ∧ Wrote (fun b => v.ownBlock = some b) w w' := by
  obtain ⟨vo, vc, hv, -, -⟩ := h.form
  obtain ⟨n, hn⟩ : ∃ n, l.length = n := ⟨_, rfl⟩
  rw [hn] at hv hl
  have H := Nu.hid h
  have HN := Nu.hid hn
  subst hv
  clear h hn
  go_enter Try.func24, Try.ntmps24
  go_wp2
  go_loopw [6] (fun cv wr => ∃ (i : Nat) (q : List Int), i ≤ n ∧ cv = .int .i64 (i : Int) ∧ q.length = n ∧ OwnZ wr B (.slice vo n vc) q ∧ Wrote (fun b => (Value.slice vo n vc).ownBlock = some b) w wr) (fun cv _ => n - (intOf cv).toNat)
  case atStart => exact ⟨0, l, Nat.zero_le _, rfl, HN.out, H.out, Wrote.refl _ _⟩
  case round =>
    obtain ⟨i, q, hin, rfl, hq, hown, hw⟩ := hrel
    have HQ := Nu.hid hq
    have HOWN := Nu.hid hown
    have HW := Nu.hid hw
    by_cases hlt : i < n
    · have i0 : (0 : Int) ≤ (i : Int) := by omega
      have i1 : (i : Int) < (n : Int) := by omega
      obtain ⟨g, hg⟩ : ∃ g, vo = some ⟨g, 0, none⟩ := by
        rcases hown.2 with ⟨h', h0⟩ | ⟨g', c', cur, e', _⟩
        · omega
        · cases e'; exact ⟨g', rfl⟩
      subst hg
      have ho := hown
      unfold OwnZ at ho
      rw [hq] at ho
      obtain ⟨y, hy⟩ : ∃ y, q[i]? = some y := ⟨_, List.getElem?_eq_getElem (by omega)⟩
      have hc := World.ownsRow.cells ho (g := g) rfl i (.int .i64 y) (by rw [List.getElem?_map, hy]; rfl)
      have ea : ((⟨g, 0, none⟩ : Addr).add i) = ⟨g, i, none⟩ := by
        by_cases h0 : i = 0 <;> simp [Addr.add, h0]
      rw [ea] at hc
      have fr := ho.frozenAt i
      have HST : Hid (OwnZ (wr.setCell ⟨g, i, none⟩ (.int .i64 (-77))) B (.slice (some ⟨g, 0, none⟩) n vc) (q.set i (-77))) := by
        unfold OwnZ
        rw [List.length_set, hq, List.map_set]
        exact (ho.stored i (.int .i64 (-77))).1
      have HWW := Nu.hid (hw.setCell (b := g) (i := i) rfl (.int .i64 (-77)))
      clear hq hown hw ho hy ea
      go_wp2
      go_roundw
      case rel => exact ⟨i + 1, _, by omega, by go_num, by rw [List.length_set]; exact HQ.out, HST.out, HWW.out⟩
      case measure => simp [intOf]; omega
    · have hd : ¬ ((i : Int) < (n : Int)) := by omega
      clear hq hown hw
      go_wp2
      go_loopw [0, 3] (fun gv cv wx => ∃ (j : Nat) (q' : List Int), j ≤ 40 ∧ cv = .int .i64 (j : Int) ∧ q'.length = n + j ∧ OwnZ wx B gv q' ∧ (∀ b, gv.ownBlock = some b → (Value.slice vo n vc).ownBlock = some b ∨ w.heap.size ≤ b) ∧ Wrote (fun b => (Value.slice vo n vc).ownBlock = some b) w wx) (fun _ cv _ => 40 - (intOf cv).toNat)
      case atStart => exact ⟨0, q, by omega, rfl, HQ.out, HOWN.out, fun b hb => .inl hb, HW.out⟩
      case round =>
        obtain ⟨j, q', hj, rfl, hq', hown, hblk, hw⟩ := hrel
        have HQ' := Nu.hid hq'
        have HOWN' := Nu.hid hown
        have HBLK := Nu.hid hblk
        have HW' := Nu.hid hw
        have hszx := hw.size
        clear hq' hown hblk hw
        by_cases hj4 : j < 40
        · have j1 : (j : Int) < 40 := by omega
          have HLL : Hid (q'.length ≤ 17592186044000) := by show _ ≤ _; rw [HQ'.out]; omega
          have hBx : B ≤ wr.heap.size := by omega
          go_wp2_with (at_builtin; refine wpList_push rfl _ _ rfl _ B _ q' (-78) HOWN'.out hBx HLL.out rfl rfl ?_; refine Hid.out ?_)
          refine Nu.hid ?_
          intro v' w5 ho5 hg5 hat5 hb5
          have HO5 := Nu.hid ho5
          have HL5 : Hid ((q' ++ [-78]).length = n + (j + 1)) := by show _ = _; rw [List.length_append, HQ'.out]; rfl
          have HB5 : Hid (∀ b, v'.ownBlock = some b → (Value.slice vo n vc).ownBlock = some b ∨ w.heap.size ≤ b) := fun b hb => by
            rcases hat5 with e | e
            · exact HBLK.out b (e.symm.trans hb)
            · have := Option.some.inj (e.symm.trans hb)
              exact .inr (by omega)
          have HW5 := Nu.hid ((HW'.out.alloc _).grown hg5 (fun b hb hlt => by
            rcases HBLK.out b hb with e | e
            · exact e
            · omega))
          clear ho5 hg5 hat5 hb5
          go_wp2
          go_roundw
          case rel => exact ⟨j + 1, _, by omega, by go_num, HL5.out, HO5.out, HB5.out, HW5.out⟩
          case measure => simp [intOf]; omega
        · have j1 : ¬ ((j : Int) < 40) := by omega
          go_wp2
          go_end0
          exact ⟨rfl, HW'.out⟩

/-- An edge of a list of one's own is written over. -/
theorem ownE_put9 {w : World} {B g k c : Nat} {q : List (Int × Int)} (h : OwnE w B (.slice (some ⟨g, 0, none⟩) k c) q) {i : Nat} (hi : i < q.length) (x y : Int) :
    OwnE ((w.setCell ⟨g, i * 2, none⟩ (.int .i64 x)).setCell ⟨g, i * 2 + 1, none⟩ (.int .i64 y)) B (.slice (some ⟨g, 0, none⟩) k c) (q.set i (x, y)) ∧
    (∃ u v, w.cell? ⟨g, i * 2, none⟩ = some u ∧ w.cell? ⟨g, i * 2 + 1, none⟩ = some v) ∧ w.frozen? ⟨g, i * 2, none⟩ = false ∧ w.frozen? ⟨g, i * 2 + 1, none⟩ = false := by
  have hk : k = q.length := by
    rcases h.2 with ⟨h', h0⟩ | ⟨g', cap', cur, e, _⟩
    · injection h'
      omega
    · injection e
  subst hk
  have h' : w.ownsRow B 49 2 (.slice (some ⟨g, 0, none⟩) q.length c) q.length (flatE q) := h
  obtain ⟨s1, _⟩ := h'.stored (i * 2) (.int .i64 x)
  obtain ⟨s2, _⟩ := s1.stored (i * 2 + 1) (.int .i64 y)
  obtain ⟨p, hp⟩ : ∃ p, q[i]? = some p := ⟨_, List.getElem?_eq_getElem hi⟩
  obtain ⟨f0, f1⟩ := flatE_at q i p hp
  have c0 := World.ownsRow.cells h' (g := g) rfl _ _ f0
  have c1 := World.ownsRow.cells h' (g := g) rfl _ _ f1
  rw [addrE] at c0 c1
  refine ⟨?_, ⟨_, _, c0, c1⟩, h'.frozenAt _, h'.frozenAt _⟩
  unfold OwnE
  rw [List.length_set, flatE_set2]
  exact s2
theorem ownE_keep9 {S : Nat → Prop} {w w' : World} {B : Nat} {v : Value} {q : List (Int × Int)} (h : OwnE w B v q) (hw : Wrote S w w') (hS : ∀ b, v.ownBlock = some b → ¬ S b) : OwnE w' B v q := by
  refine ⟨h.1, ?_⟩
  rcases h.2 with h | ⟨g, cap, cur, e, hgB, hh, hr⟩
  · exact .inl h
  · exact .inr ⟨g, cap, cur, e, hgB, (hw.block g (lt_of_block hh) (hS g (by rw [e]; rfl))).trans hh, hr⟩
theorem ownZ_keep9 {S : Nat → Prop} {w w' : World} {B : Nat} {v : Value} {q : List Int} (h : OwnZ w B v q) (hw : Wrote S w w') (hS : ∀ b, v.ownBlock = some b → ¬ S b) : OwnZ w' B v q :=
  h.same fun g hg hl => hw.block g hl (hS g hg)

end Go.Proofs.Ytalfpbalekbinaa
