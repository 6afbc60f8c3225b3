import Derived.Test.YtalfpbalekbinaaGreatMg12
import Derived.OwnWalk
import Derived.Sort.Grow
/-
  gather: what lies on the stack from a place on is a block, and is kept under its least edge.
-/
namespace Go.Proofs.YtalfpbalekbinaaGreat
open Go.RowKit Go.Sort

namespace Bl
/-- The first i are laid. -/
def zf (L : List Nat) (i : Nat) : List Int := (List.range L.length).map fun j => if j < i then ((L.getD j 0 : Nat) : Int) else 0
theorem zf_length (L : List Nat) (i : Nat) : (zf L i).length = L.length := by simp [zf]
theorem zf_at {L : List Nat} {i j : Nat} (h : j < L.length) : (zf L i)[j]? = some (if j < i then ((L.getD j 0 : Nat) : Int) else 0) := by
  unfold zf
  rw [List.getElem?_map, List.getElem?_range h]
  rfl
theorem zf_zero (L : List Nat) : zf L 0 = List.replicate L.length 0 := by
  refine List.ext_getElem? fun i => ?_
  by_cases h : i < L.length
  · rw [zf_at h, List.getElem?_replicate, if_pos h, if_neg (by omega)]
  · rw [List.getElem?_eq_none (by rw [zf_length]; omega), List.getElem?_eq_none (by simp; omega)]
theorem zf_all (L : List Nat) : zf L L.length = L.map Nat.cast := by
  refine List.ext_getElem? fun i => ?_
  by_cases h : i < L.length
  · rw [zf_at h, if_pos h, List.getElem?_map, List.getElem?_eq_getElem h, List.getD_eq_getElem?_getD, List.getElem?_eq_getElem h]
    rfl
  · rw [List.getElem?_eq_none (by rw [zf_length]; omega), List.getElem?_eq_none (by simp; omega)]
theorem zf_set {L : List Nat} {i x : Nat} (h : L[i]? = some x) : (zf L i).set i (x : Int) = zf L (i + 1) := by
  have hi := (List.getElem?_eq_some_iff.1 h).1
  refine List.ext_getElem? fun j => ?_
  by_cases hj : j < L.length
  · by_cases e : i = j
    · subst e
      rw [List.getElem?_set_self (by rw [zf_length]; exact hi), zf_at hj, if_pos (by omega), List.getD_eq_getElem?_getD, h]
      rfl
    · rw [List.getElem?_set_ne e, zf_at hj, zf_at hj]
      by_cases h1 : j < i
      · rw [if_pos h1, if_pos (by omega)]
      · rw [if_neg h1, if_neg (by omega)]
  · rw [List.getElem?_eq_none (by rw [List.length_set, zf_length]; omega), List.getElem?_eq_none (by rw [zf_length]; omega)]
end Bl

theorem int_key {k : Int} (h0 : 0 ≤ k) (h1 : k ≤ 4611686018427387904) : keyOf Tryz.prog 3 (.int .i64 k) = some (.int .i64 k) :=
  Maps.keyOf_int_mk Tryz.underlying3 (WalkArith.wf_i64 ⟨by omega, by omega⟩)

theorem keyedInt : Maps.Keyed Tryz.prog 3 := Maps.int_keyed Tryz.underlying3

/-- A block more is found: its row is block g. -/
theorem FinIn.found {x : Fx} {w0 w w' w'' : World} {sv yv : Value} {D : DataW Value} {G : Nat → Prop} {S : List (Nat × Int)} {Y : List Nat} {F : List (List Nat)} (h : FinIn x w0 w sv yv D G S Y F) {L : List Nat} {g : Nat} (hb : Below w.heap.size w w') (hg : w.heap.size ≤ g) (hi : IntsBlk w' g (L.map Nat.cast))
    (hmap : w''.ownsMap Tryz.prog 3 rawE x.mb (F.length + 1) (D.put (.int .i64 (Bl.mn L : Int)) (.held (.slice (some ⟨g, 0, none⟩) L.length L.length)))) (hgr : w'.grownBy w'' (some x.mb)) (hnew : ∀ L' ∈ F, Bl.mn L' ≠ Bl.mn L) : FinIn x w0 w'' sv yv (D.put (.int .i64 (Bl.mn L : Int)) (.held (.slice (some ⟨g, 0, none⟩) L.length L.length))) (fun k => G k ∨ k = g) S Y (F ++ [L]) := by
  have h1 := h.later hb
  have hok := h.ok
  have hblk : ∀ k, k < w'.heap.size → k ≠ x.mb → w''.heap[k]? = w'.heap[k]? := fun k hk hne => hgr.block k hk (fun e => hne (Option.some.inj e))
  have hgl : g < w'.heap.size := hi.lt
  have hgm : g ≠ x.mb := by have := h.map.lt; omega
  have hkl : WideAt.IsKeyLit (.int .i64 (Bl.mn L : Int)) := trivial
  refine ⟨hok, h1.below.trans ⟨hgr.os, hgr.tape, hgr.output, hgr.size, fun k hk => hblk k (by have := h1.below.size; omega) (by have := hok.l1; omega)⟩, Nat.le_trans h1.size hgr.size, (hblk _ h1.plt (fun e => hok.l5 e.symm)).trans h1.blk,
    h1.stk.same fun k hk hl => hblk k hl (fun e => h1.sfar hok.l3 (by rw [← e]; exact hk)), h1.way.same fun k hk hl => hblk k hl (fun e => h1.yfar hok.l3 (by rw [← e]; exact hk)), h.ne, by rw [List.length_append]; exact hmap, fun kl => ?_, fun L' hL' => ?_, fun k hk => ?_⟩
  · by_cases e : kl = .int .i64 (Bl.mn L : Int)
    · subst e
      rw [Maps.has_put_same h.map.isMap hkl]
      exact ⟨fun _ => ⟨L, by simp, rfl⟩, fun _ => rfl⟩
    · rw [Maps.has_put_other e, h.keys kl]
      constructor
      · rintro ⟨L', hL', e'⟩
        exact ⟨L', List.mem_append_left _ hL', e'⟩
      · rintro ⟨L', hL', e'⟩
        rcases List.mem_append.1 hL' with hL' | hL'
        · exact ⟨L', hL', e'⟩
        · rw [List.mem_singleton.1 hL'] at e'
          exact absurd e' e
  · rcases List.mem_append.1 hL' with hL' | hL'
    · obtain ⟨g', e', hB, hG, hi'⟩ := h1.rows L' hL'
      refine ⟨g', ?_, hB, .inl hG, (hblk g' hi'.lt (fun e => by have := hok.l3; omega)).trans hi'⟩
      rw [Maps.atKey_put_other (fun e => hnew L' hL' (by injection e; omega))]
      exact e'
    · rw [List.mem_singleton.1 hL']
      refine ⟨g, Maps.atKey_put_same h.map.isMap hkl _ _, Nat.le_trans h.size hg, .inr rfl, (hblk g hgl hgm).trans hi⟩
  · rcases hk with hk | rfl
    · obtain ⟨a, b, c⟩ := h1.far k hk
      exact ⟨Nat.lt_of_lt_of_le a hgr.size, b, c⟩
    · refine ⟨Nat.lt_of_lt_of_le hgl hgr.size, fun e => ?_, fun e => ?_⟩
      · have := (h.stk.lt e).2
        omega
      · have := (World.ownsRow.lt h.way _ e).2
        omega

theorem look_zero (w : World) : (zeroValue 26).run Tryz.prog w = .ok (.slice none 0 0) w := by kernel_rfl

/-- What the operations at gather's end give. -/
def gaVal (p mb g k : Nat) (m : Int) : Nat → Value
  | 0 => .pointer (some ⟨p, 0, none⟩)
  | 1 => .pointer (some ⟨p, 0, none⟩)
  | 2 => .pointer (some ⟨p, 7, none⟩)
  | 3 => .map (some mb)
  | 4 => .slice (some ⟨g, 0, none⟩) k k
  | 5 => .int .i64 m
  | 6 => .slice (some ⟨g, 0, none⟩) k k
  | _ => undef

set_option maxRecDepth 100000 in
set_option maxHeartbeats 16000000 in
theorem gather_any9 (x : Fx) (w0 w : World) (sv yv : Value) (D : DataW Value) (G : Nat → Prop) (S : List (Nat × Int)) (Y : List Nat) (F : List (List Nat)) (a gs cs k : Nat) (L : List Nat) (h : FinIn x w0 w sv yv D G S Y F) (hsv : sv = .slice (some ⟨gs, 0, none⟩) S.length cs) (ha : a < S.length) (hk : a + k = S.length) (hL : L = (S.drop a).map Prod.fst) (hS : S.length ≤ 4194304) (hF : F.length ≤ 4194304) (hpos : ∀ y ∈ L, y < 4194304) (hnew : ∀ L' ∈ F, Bl.mn L' ≠ Bl.mn L) (c : Nat) :
    Calls Tryz.prog 85 #[.pointer (some ⟨x.p, 0, none⟩), .slice (some ⟨gs, a * 2, none⟩) k c] w fun e w' => e = .returned (.tuple #[]) ∧ ∃ D' G', FinIn x w0 w' sv yv D' G' S Y (F ++ [L]) := by
  obtain ⟨i0, hi, hz0, hz1, hz2⟩ := info_parts Tryz.infoNum
  have H := Nu.hid h
  have hLl : L.length = k := by rw [hL]; simp; omega
  have hcell : ∀ W, Below w.heap.size w W → ∀ i t : Nat, L[i]? = some t → ∃ l : Int, W.cell? ⟨gs, a * 2 + i * 2, none⟩ = some (.int .i64 (t : Int)) ∧ W.cell? ⟨gs, a * 2 + i * 2 + 1, none⟩ = some (.int .i64 l) := fun W hW i t hi => by
    have e1 : (S.drop a)[i]?.map Prod.fst = some t := by rw [← List.getElem?_map, ← hL]; exact hi
    obtain ⟨⟨t', l⟩, e2, e3⟩ := Option.map_eq_some_iff.1 e1
    dsimp only at e3
    subst e3
    rw [List.getElem?_drop] at e2
    have hst := (h.later hW).stk
    obtain ⟨g', c', cur, e4, -, hh, -, -, ht, -, -⟩ := hst.row e2
    rw [hsv] at e4
    cases e4
    obtain ⟨q0, q1⟩ := row_cells hh rfl ht e2
    refine ⟨l, ?_, ?_⟩
    · rw [show a * 2 + i * 2 = (a + i) * 2 by omega]; exact q0
    · rw [show a * 2 + i * 2 + 1 = (a + i) * 2 + 1 by omega]; exact q1
  have HC := Nu.hid hcell
  have hk0 : 0 < k := by omega
  have hk4 : k ≤ 4194304 := by omega
  have HL := Nu.hid hLl
  have HP := Nu.hid hpos
  clear h hcell hLl hsv ha hk hL hS hpos
  go_enter Tryz.func85, Tryz.ntmps85
  go_wp2_with (at_make; refine wpList_make_full _ rfl _ _ 26 rfl w.heap.size 3 i0 (.int .i64 0) 1 Tryz.underlying26 hi hz0 hz1 _ _ _ _ k rfl rfl rfl rfl (by rw [hz2]; omega) (by unfold maxLen; omega) (Nat.le_refl _) ?_; refine Hid.out ?_)
  refine Nu.hid ?_
  intro w1 hrow hg1
  rw [made_zeros] at hrow
  have hik := ints_of_row hrow
  rw [← HL.out, ← Bl.zf_zero] at hik
  have hb1 : Below w.heap.size w w1 := (Below.refl _ _).grown hg1 (Nat.le_refl _) (fun j hj => by cases hj)
  have HB1 := Nu.hid hb1
  have HI1 := Nu.hid hik
  clear hrow hg1 hik hb1
  go_wp2
  go_loopw [12] (fun cv wr => ∃ i : Nat, i ≤ k ∧ cv = .int .i64 (i : Int) ∧ IntsBlk wr w.heap.size (Bl.zf L i) ∧ Below w.heap.size w wr) (fun cv _ => k - (intOf cv).toNat)
  case atStart => exact ⟨0, Nat.zero_le _, rfl, HI1.out, HB1.out⟩
  case round =>
    obtain ⟨i, hil, rfl, hI, hb⟩ := hrel
    have HI := Nu.hid hI
    have HB := Nu.hid hb
    by_cases hik : i < k
    · have hlti : (i : Int) < (k : Int) := by omega
      have hi0 : (0 : Int) ≤ (i : Int) := by omega
      obtain ⟨t, ht⟩ : ∃ t, L[i]? = some t := ⟨_, List.getElem?_eq_getElem (by rw [HL.out]; exact hik)⟩
      obtain ⟨l, c0, c1⟩ := HC.out wr hb i t ht
      have hgl := hI.lt
      have cf := hI.free i
      have ck := hI.cell (Bl.zf_at (i := i) (j := i) (by rw [HL.out]; exact hik))
      have HT := Nu.hid ht
      have HS : Hid (IntsBlk (wr.setCell ⟨w.heap.size, i, none⟩ (.int .i64 (t : Int))) w.heap.size (Bl.zf L (i + 1))) := by
        show IntsBlk _ _ _
        rw [← Bl.zf_set ht]
        exact hI.set i _
      clear hI hb ht
      go_wp2
      go_roundw
      case rel => exact ⟨i + 1, by omega, by go_num, by first | exact HS.out.alloc _ | (rw [← Bl.zf_set HT.out]; exact (HI.out.alloc _).set _ _), by first | exact (HB.out.setCell (p := ⟨w.heap.size, i, none⟩) (Nat.le_refl _) _).alloc (by have := HB.out.size; simp; omega) _ | exact (HB.out.alloc HB.out.size _).setCell (p := ⟨w.heap.size, i, none⟩) (Nat.le_refl _) _⟩
      case measure => simp [intOf]; omega
    · have hlti : ¬ (i : Int) < (k : Int) := by omega
      obtain rfl : i = k := by omega
      have hIL : IntsBlk wr w.heap.size (L.map Nat.cast) := by rw [← Bl.zf_all, HL.out]; exact hI
      have h1 := H.out.later hb
      have c7 : wr.cell? ⟨x.p, 7, none⟩ = some (.map (some x.mb)) := (h1.cells (i := 7) rfl).1
      have hmm : Bl.mn L < 4194304 := HP.out _ (Bl.mn_mem (fun e => by have := HL.out; rw [e] at this; simp at this; omega))
      have hmap : (wr.drew).ownsMap Tryz.prog 3 rawE x.mb F.length D := h1.map.drew
      obtain ⟨w2, hrun, hmap2, hgr⟩ := hmap.update keyedInt Tryz.underlying54 (by unfold maxLen; omega) (int_key (k := (Bl.mn L : Int)) (by omega) (by omega)) (val := .slice (some ⟨w.heap.size, 0, none⟩) i i) (d := .held (.slice (some ⟨w.heap.size, 0, none⟩) i i)) (ps := []) rfl
      have HEND : Hid (∃ D' G', FinIn x w0 w2 sv yv D' G' S Y (F ++ [L])) := by
        refine ⟨_, _, H.out.found (w' := wr.drew) (L := L) (g := w.heap.size) hb.drew (Nat.le_refl _) hIL ?_ hgr hnew⟩
        rw [HL.out]
        exact hmap2
      have HMIN : Hid (Calls Tryz.prog 98 #[.slice (some ⟨w.heap.size, 0, none⟩) i i] wr.drew fun e w' => e = .returned (.int .i64 (Bl.mn L : Int)) ∧ w' = wr.drew) := by
        refine (min_any (some ⟨w.heap.size, 0, none⟩) i i (L.map Nat.cast) wr.drew (by rw [List.length_map]; exact HL.out) hk0 (by omega) (IntsBlk.at (w := wr.drew) hIL)).mono ?_
        rintro e w' ⟨m, rfl, hm, rfl⟩
        rw [← HL.out] at hm
        exact ⟨by rw [hm.mn], rfl⟩
      clear hI hb h1 hmap hmap2 hgr hIL
      go_wp2_with fail
      refine wp_region_any (by kernel_rfl) ?_
      refine AnyOrd.anyP (gaVal x.p x.mb w.heap.size i (Bl.mn L : Int)) (fun L V => if L 7 = true then V = w2 else V = wr.drew) 30 rfl (by kernel_rfl) rfl ?_ ?_
      · intro j o Ls V ev ho hLi hC haft hdc he1 he2 hec hef
        have hc : j = 0 ∨ j = 1 ∨ j = 2 ∨ j = 3 ∨ j = 4 ∨ j = 5 ∨ j = 6 ∨ j = 7 := by
          have : j < 8 := (Array.getElem?_eq_some_iff.1 ho).1
          omega
        have hdn : ∀ k, k < 7 → Ls 7 = true → Ls k = true := fun k hk h7 => by
          have : k = 0 ∨ k = 1 ∨ k = 2 ∨ k = 3 ∨ k = 4 ∨ k = 5 ∨ k = 6 := by omega
          rcases this with rfl | rfl | rfl | rfl | rfl | rfl | rfl
          all_goals exact hdc 7 _ rfl h7 ⟨_, .phase⟩ (by simp) rfl
        have hV : j ≠ 7 → V = wr.drew := fun hj => by
          cases h7 : Ls 7 with
          | false =>
            rw [h7] at hC
            exact hC
          | true =>
            have := hdn j (by omega) h7
            rw [hLi] at this
            cases this
        have hV7 : j = 7 → V = wr.drew := fun hj => by
          subst hj
          rw [hLi] at hC
          exact hC
        obtain rfl : V = wr.drew := by
          by_cases e : j = 7
          · exact hV7 e
          · exact hV e
        have hoth : j ≠ 7 → (if AnyOrd.updB Ls j 7 = true then wr.drew = w2 else wr.drew = wr.drew) := fun hj => by
          have e1 : AnyOrd.updB Ls j 7 = Ls 7 := if_neg (fun e => hj e.symm)
          rw [e1]
          exact hC
        have c7' : wr.drew.cell? ⟨x.p, 7, none⟩ = some (.map (some x.mb)) := c7
        clear hV hV7 hC
        rcases hc with rfl | rfl | rfl | rfl | rfl | rfl | rfl | rfl <;> obtain rfl := Option.some.inj ho
        · have e1 := he2 0 (by kernel_rfl)
          exact AnyOrd.gives_value (w' := wr.drew) (by simp [execOp, go_sem, e1]; rfl) ⟨rfl, hoth (by decide)⟩
        · have e1 : ev (.tmp 23) = .pointer (some ⟨x.p, 0, none⟩) := he1 0 23 (by omega) rfl (by decide)
          exact AnyOrd.gives_value (w' := wr.drew) (by simp [execOp, go_sem, e1]; rfl) ⟨rfl, hoth (by decide)⟩
        · have e1 : ev (.tmp 24) = .pointer (some ⟨x.p, 0, none⟩) := he1 1 24 (by omega) rfl (by decide)
          exact AnyOrd.gives_value (w' := wr.drew) (by simp [execOp, go_sem, e1]; rfl) ⟨rfl, hoth (by decide)⟩
        · have e1 : ev (.tmp 25) = .pointer (some ⟨x.p, 7, none⟩) := he1 2 25 (by omega) rfl (by decide)
          exact AnyOrd.gives_value (w' := wr.drew) (by simp [execOp, go_sem, e1, c7']; rfl) ⟨rfl, hoth (by decide)⟩
        · have e1 := he2 4 (by kernel_rfl)
          exact AnyOrd.gives_value (w' := wr.drew) (by simp [execOp, go_sem, e1]; rfl) ⟨rfl, hoth (by decide)⟩
        · have e1 : ev (.tmp 27) = .slice (some ⟨w.heap.size, 0, none⟩) i i := he1 4 27 (by omega) rfl (by decide)
          have hen : ∀ args w, (callFunc 98 args).run Tryz.prog w = .ok (.enter 98 args) w := enters_of Tryz.func98 (by kernel_rfl) rfl
          have hrun5 : ∀ o : Oper, o.op = .call { callee := .value (.func 98), args := #[.tmp 27], argTypes := #[26] } → (execOp ev o).run Tryz.prog wr.drew = .ok (.enter 98 #[.slice (some ⟨w.heap.size, 0, none⟩) i i]) wr.drew := fun o ho => by
            simp [execOp, ho, go_sem, e1, hef, hen]
          unfold AnyOrd.Gives
          rw [hrun5 _ rfl]
          refine HMIN.out.mono fun e V' hq => ⟨_, hq.1, rfl, ?_⟩
          rw [hq.2]
          exact hoth (by decide)
        · have e1 := he2 4 (by kernel_rfl)
          exact AnyOrd.gives_value (w' := wr.drew) (by simp [execOp, go_sem, e1]; rfl) ⟨rfl, hoth (by decide)⟩
        · have e1 : ev (.tmp 26) = .map (some x.mb) := he1 3 26 (by omega) rfl (by decide)
          have e2 : ev (.tmp 28) = .int .i64 (Bl.mn L : Int) := he1 5 28 (by omega) rfl (by decide)
          have e3 : ev (.tmp 29) = .slice (some ⟨w.heap.size, 0, none⟩) i i := he1 6 29 (by omega) rfl (by decide)
          refine AnyOrd.gives_skip (w' := w2) (by simp [execOp, e1, e2, e3, hrun, Result.andThen]) ⟨rfl, ?_⟩
          rw [if_pos (show AnyOrd.updB Ls 7 7 = true from rfl)]
      · intro Ls V hall hC
        rw [hall 7 (by decide), if_pos rfl] at hC
        subst hC
        go_end0
        exact ⟨rfl, HEND.out⟩
end Go.Proofs.YtalfpbalekbinaaGreat

/-
  finish: the finder goes back by its last tree edge; leave.
-/
namespace Go.Proofs.YtalfpbalekbinaaGreat
open Go.RowKit Go.Sort

namespace Bl
open Df Lo
section
variable {n : Nat} {es : List (Int × Int)} {s : St} {X : Nat → Prop} {T : List Nat} {S : List (Nat × Int)} {Y : List Nat} {F : List (List Nat)}
theorem Fi.few (f : Fi es s X T S Y F) : S.length ≤ es.length := by
  have h := nodup_sub (l1 := S.map Prod.fst) (l2 := List.range es.length) f.nod (fun x hx => List.mem_range.2 ((f.mem x).1 hx).1)
  simpa using h
theorem nodup_map_mn : ∀ {F : List (List Nat)}, (∀ B ∈ F, B ≠ []) → F.Pairwise (fun B B' => ∀ e ∈ B, e ∉ B') → (F.map mn).Nodup
  | [], _, _ => List.nodup_nil
  | B :: F, h, hp => by
    obtain ⟨h1, h2⟩ := List.pairwise_cons.1 hp
    rw [List.map_cons, List.nodup_cons]
    refine ⟨fun hm => ?_, nodup_map_mn (fun B hB => h B (List.mem_cons_of_mem _ hB)) h2⟩
    obtain ⟨B', hB', e⟩ := List.mem_map.1 hm
    have := mn_mem (h B List.mem_cons_self)
    exact h1 B' hB' _ this (by rw [← e]; exact mn_mem (h B' (List.mem_cons_of_mem _ hB')))
theorem Fi.full (hv : Si.Val n es) (h : VF n es s) (f : Fi es s X T S Y F) : ∀ B ∈ F, B ≠ [] := fun B hB e => by
  obtain ⟨c, c1, c2, _, _, _, c5⟩ := f.one B hB
  have := (c5 c).2 ⟨c1, hdf_eq hv h (.self c1 c2)⟩
  rw [e] at this
  cases this
theorem Fi.fewF (hv : Si.Val n es) (h : VF n es s) (f : Fi es s X T S Y F) : F.length ≤ es.length := by
  have hf := f.full hv h
  have := nodup_sub (l1 := F.map mn) (l2 := List.range es.length) (nodup_map_mn hf f.apart) (fun x hx => by
    obtain ⟨B, hB, rfl⟩ := List.mem_map.1 hx
    obtain ⟨c, _, _, _, _, _, c5⟩ := f.one B hB
    exact List.mem_range.2 ((c5 _).1 (mn_mem (hf B hB))).1)
  simpa using this
theorem Fi.fewT (f : Fi es s X T S Y F) : T.length ≤ es.length := by
  have hn : T.Nodup := by
    unfold List.Nodup
    rw [List.pairwise_iff_getElem]
    intro i j hi hj hij e
    have := f.path.inj (i := i) (k := j) (t := T[i]) (List.getElem?_eq_getElem hi) (by rw [e]; exact List.getElem?_eq_getElem hj)
    omega
  have := nodup_sub (l1 := T) (l2 := List.range es.length) hn (fun x hx => by
    obtain ⟨i, hi⟩ := List.getElem?_of_mem hx
    exact List.mem_range.2 (f.path.edge i x hi).1)
  simpa using this
/-- The last of the way. -/
theorem Fi.last {t a : Nat} (f : Fi es s X (T ++ [t]) S (Y ++ [a]) F) : ∃ l, S[a]? = some (t, l) := by
  have hlen : Y.length = T.length := by simpa using f.len
  obtain ⟨t', l, k1, k2, _⟩ := f.way Y.length a (last_at Y a)
  rw [hlen, last_at] at k1
  cases k1
  exact ⟨l, k2⟩
end
end Bl

/-- The finder, wherever its lists lie. -/
def FinAt (x : Fx) (w0 w : World) (S : List (Nat × Int)) (Y : List Nat) (F : List (List Nat)) : Prop := ∃ sv yv D G, FinIn x w0 w sv yv D G S Y F

section
variable {x : Fx} {w0 w w' : World} {sv yv : Value} {D : DataW Value} {G : Nat → Prop} {S : List (Nat × Int)} {Y : List Nat} {F : List (List Nat)}
theorem FinIn.pop {a gy cy : Nat} (h : FinIn x w0 w sv yv D G S (Y ++ [a]) F) (hv : yv = .slice (some ⟨gy, 0, none⟩) (Y.length + 1) cy) : FinIn x w0 (w.setCell ⟨x.p, 6, none⟩ (.slice (some ⟨gy, 0, none⟩) Y.length cy)) sv (.slice (some ⟨gy, 0, none⟩) Y.length cy) D G S Y F := by
  have hw : Wrote (FinW x sv yv) w (w.setCell ⟨x.p, 6, none⟩ (.slice (some ⟨gy, 0, none⟩) Y.length cy)) := (Wrote.refl _ w).setCell (.inl rfl) _
  have hown := h.way
  rw [List.map_append, hv] at hown
  have hfr : OwnZ w x.B (.slice (some ⟨gy, 0, none⟩) Y.length cy) (Y.map Nat.cast) := by
    have h2 := hown
    rw [show Y.length = (Y.map (Nat.cast : Nat → Int)).length by simp] at h2 ⊢
    exact OwnZ.front h2
  refine h.turn hw (heap_setCell_same w x.p 6 _ _ _ h.blk) ?_ ?_ ?_ (.inl rfl) (.inl (by rw [hv]; rfl))
  · exact h.stk.same fun g hg _ => heap_setCell_other w ⟨x.p, 6, none⟩ g _ (fun e => h.sfar h.ok.l4 (by rw [hg]; exact congrArg some e))
  · exact hfr.same fun g hg _ => heap_setCell_other w ⟨x.p, 6, none⟩ g _ (fun e => h.yfar h.ok.l4 (by rw [hv]; have e2 : gy = g := Option.some.inj hg; rw [show x.p = gy from (e2.trans e).symm]; rfl))
  · rcases h.ne with e | e
    · exact .inl e
    · exact .inr (fun e2 => e (by rw [e2, hv]; rfl))
theorem FinIn.cutS {a gs cs : Nat} (h : FinIn x w0 w sv yv D G S Y F) (hv : sv = .slice (some ⟨gs, 0, none⟩) S.length cs) (ha : a ≤ S.length) : FinIn x w0 (w.setCell ⟨x.p, 5, none⟩ (.slice (some ⟨gs, 0, none⟩) a cs)) (.slice (some ⟨gs, 0, none⟩) a cs) yv D G (S.take a) Y F := by
  have hw : Wrote (FinW x sv yv) w (w.setCell ⟨x.p, 5, none⟩ (.slice (some ⟨gs, 0, none⟩) a cs)) := (Wrote.refl _ w).setCell (.inl rfl) _
  refine h.turn hw (heap_setCell_same w x.p 5 _ _ _ h.blk) ?_ ?_ ?_ (.inl (by rw [hv]; rfl)) (.inl rfl)
  · exact (h.stk.cut ha hv).same fun g hg _ => heap_setCell_other w ⟨x.p, 5, none⟩ g _ (fun e => h.sfar h.ok.l4 (by rw [hv]; have e2 : gs = g := Option.some.inj hg; rw [show x.p = gs from (e2.trans e).symm]; rfl))
  · exact h.way.same fun g hg _ => heap_setCell_other w ⟨x.p, 5, none⟩ g _ (fun e => h.yfar h.ok.l4 (by rw [hg]; exact congrArg some e))
  · rcases h.ne with e | e
    · rw [hv] at e; cases e
    · exact .inr (fun e2 => e (by rw [hv]; exact e2))
end

def FinishPost (x : Fx) (w0 : World) (X : Nat → Prop) (T : List Nat) (Y : List Nat) (e : Ending) (w' : World) : Prop :=
  e = .returned (.tuple #[]) ∧ ∃ S' F', FinAt x w0 w' S' Y F' ∧ Bl.Fi x.es x.s X T S' Y F'

set_option maxRecDepth 100000 in
set_option maxHeartbeats 16000000 in
theorem finish_any (x : Fx) (w0 w : World) (X : Nat → Prop) (T : List Nat) (t : Nat) (S : List (Nat × Int)) (Y : List Nat) (a : Nat) (F : List (List Nat)) (h : FinAt x w0 w S (Y ++ [a]) F) (f : Bl.Fi x.es x.s X (T ++ [t]) S (Y ++ [a]) F) (hall : ∀ e, e < x.es.length → Df.Anc x.es x.s (Lo.go_ x.es x.s t) (Bl.ev x.es x.s e) → X e) :
    Calls Tryz.prog 75 #[.pointer (some ⟨x.p, 0, none⟩)] w (FinishPost x w0 X T Y) := by
  obtain ⟨sv, yv, D, G, h⟩ := h
  have hval := h.ok.val
  have hvf := h.ok.vf
  have hfew := hval.few
  obtain ⟨l, hl⟩ := f.last
  have hal := (List.getElem?_eq_some_iff.1 hl).1
  have hS := f.few
  have hT := f.fewT
  rw [List.length_append, List.length_singleton] at hT
  have hlen : Y.length = T.length := by simpa using f.len
  have hF := f.fewF hval hvf
  have hl0 : 0 ≤ l := f.pos _ (List.mem_of_getElem? hl)
  have hw := h.way
  rw [List.map_append] at hw
  obtain ⟨gy, cy, hyv, d0, hcy, hBy, hgy⟩ := hw.row_snoc
  rw [List.length_map] at hyv d0 hcy
  obtain ⟨gs, cs, cur, hsv, hcl, hh, hm, hcs, ht, hBs, hgs⟩ := h.stk.row hl
  obtain ⟨k0, k1⟩ := row_cells hh rfl ht hl
  have c5 : w.cell? ⟨x.p, 5, none⟩ = some sv := (h.cells (i := 5) rfl).1
  have c6 : w.cell? ⟨x.p, 6, none⟩ = some yv := (h.cells (i := 6) rfl).1
  have f6 : w.frozen? ⟨x.p, 6, none⟩ = false := (h.cells (i := 6) rfl).2
  have h1 := h.pop hyv
  obtain ⟨w1, hw1⟩ : ∃ w1, w1 = w.setCell ⟨x.p, 6, none⟩ (.slice (some ⟨gy, 0, none⟩) Y.length cy) := ⟨_, rfl⟩
  rw [← hw1] at h1
  have HW1 := Nu.hid hw1
  have H1 := Nu.hid h1
  have HF := Nu.hid f
  have HL := Nu.hid hl
  have hgp : gs ≠ x.p := fun e => by have := h.ok.l4; omega
  have d5 : w1.cell? ⟨x.p, 5, none⟩ = some sv := (h1.cells (i := 5) rfl).1
  have k1' : w1.cell? ⟨gs, a * 2 + 1, none⟩ = some (.int .i64 l) := by
    rw [hw1]
    exact (World.cell?_of_block (heap_setCell_other w ⟨x.p, 6, none⟩ gs _ hgp)).trans k1
  rw [hsv] at c5 d5
  rw [hyv] at c6
  rw [hw1] at k1' d5
  have e1 : ((Y.length : Int) + 1) - 1 = (Y.length : Int) := by omega
  have e2 : (0 : Int) ≤ (Y.length : Int) := by omega
  have e3 : (Y.length : Int) < (Y.length : Int) + 1 := by omega
  have e4 : (Y.length : Int) ≤ (cy : Int) := by omega
  have a0 : (0 : Int) ≤ (a : Int) := by omega
  have a1 : (a : Int) < (S.length : Int) := by omega
  by_cases hlt : l < (Y.length : Int)
  · obtain ⟨T1, t1, Y1, a1', l1, eT, eY, hl1, f1⟩ := f.leaveLow hval hvf hl hall (by omega)
    have HLW : Hid (Calls Tryz.prog 77 #[.pointer (some ⟨x.p, 0, none⟩), .int .i64 l] w1 (FinishPost x w0 X T Y)) := by
      have h2 := h1
      rw [eY] at h2
      refine (lower_any x w0 w1 sv _ D G S Y1 a1' t1 l1 l F h2 hl1 (by rw [eY] at hlen; simp at hlen; omega)).mono ?_
      rintro e w' ⟨rfl, hfin, -⟩
      rw [← eY] at hfin
      exact ⟨rfl, _, F, ⟨sv, _, D, G, hfin⟩, f1⟩
    obtain ⟨K, hK⟩ : ∃ K, Y.length = K := ⟨_, rfl⟩
    have hKb : K ≤ 4194304 := by omega
    rw [hK] at c6 d0 hcy e1 e2 e3 e4 hlt HW1 k1' d5
    obtain ⟨N, hN⟩ : ∃ N, S.length = N := ⟨_, rfl⟩
    rw [hN] at c5 d5 a1
    clear h f hw hh hsv hyv hcl hcs ht hm hBs hgs hBy hgy hl hK hN k0 k1 eT eY hl1 f1 hlen hall hF hT hal hS h1 hw1 hval hvf
    go_enter Tryz.func75, Tryz.ntmps75
    go_wp2_with (go_at_call 77; rw [← HW1.out]; refine HLW.out.mono ?_; rintro e w' ⟨rfl, hq⟩; refine Hid.out ?_)
    refine Nu.hid ?_
    have HQ := Nu.hid hq
    clear hq
    go_wp2
    (try simp only [Exit.inBlock, Exit.then])
    refine bodyPost_ret (results_none rfl _ _ _) rfl ?_
    exact ⟨rfl, HQ.out⟩
  · have f1 := f.leaveHead hval hvf hl hall (by omega)
    obtain ⟨L, hL⟩ : ∃ L, L = (S.drop a).map Prod.fst := ⟨_, rfl⟩
    rw [← hL] at f1
    have hLne : L ≠ [] := f1.full hval hvf L (by simp)
    have hnew : ∀ L' ∈ F, Bl.mn L' ≠ Bl.mn L := fun L' hL' e => by
      have hp := (List.pairwise_append.1 f1.apart).2.2 L' hL' L (by simp)
      exact hp _ (Bl.mn_mem (f1.full hval hvf L' (List.mem_append_left _ hL'))) (by rw [e]; exact Bl.mn_mem hLne)
    have hpos : ∀ y ∈ L, y < 4194304 := fun y hy => by
      obtain ⟨c, _, _, _, _, _, c5⟩ := f1.one L (by simp)
      have := ((c5 y).1 hy).1
      omega
    have HGA : Hid (∀ k c, a + k = S.length → Calls Tryz.prog 85 #[.pointer (some ⟨x.p, 0, none⟩), .slice (some ⟨gs, a * 2, none⟩) k c] w1 fun e w' => e = .returned (.tuple #[]) ∧ ∃ D' G', FinIn x w0 w' sv (.slice (some ⟨gy, 0, none⟩) Y.length cy) D' G' S Y (F ++ [L])) := fun k c hk =>
      gather_any9 x w0 w1 sv _ D G S Y F a gs cs k L h1 hsv hal hk hL (by omega) (by omega) hpos hnew c
    have HEND : Hid (∀ w2 D' G', FinIn x w0 w2 sv (.slice (some ⟨gy, 0, none⟩) Y.length cy) D' G' S Y (F ++ [L]) → FinishPost x w0 X T Y (.returned (.tuple #[])) (w2.setCell ⟨x.p, 5, none⟩ (.slice (some ⟨gs, 0, none⟩) a cs))) := fun w2 D' G' h2 =>
      ⟨rfl, _, _, ⟨_, _, D', G', h2.cutS hsv (by omega)⟩, f1⟩
    have HC5 : Hid (∀ w2 D' G', FinIn x w0 w2 sv (.slice (some ⟨gy, 0, none⟩) Y.length cy) D' G' S Y (F ++ [L]) → w2.cell? ⟨x.p, 5, none⟩ = some (.slice (some ⟨gs, 0, none⟩) S.length cs) ∧ w2.frozen? ⟨x.p, 5, none⟩ = false) := fun w2 D' G' h2 => by
      have := h2.cells (i := 5) (u := sv) rfl
      rwa [hsv] at this
    obtain ⟨K, hK⟩ : ∃ K, Y.length = K := ⟨_, rfl⟩
    have hKb : K ≤ 4194304 := by omega
    rw [hK] at c6 d0 hcy e1 e2 e3 e4 hlt HW1 k1' d5 HGA HEND HC5
    obtain ⟨N, hN⟩ : ∃ N, S.length = N := ⟨_, rfl⟩
    rw [hN] at c5 d5 a1 HGA HC5 hal hcl
    have hNb : N ≤ 4194304 := by omega
    have a2 : (a : Int) ≤ (N : Int) := by omega
    have a3 : (a : Int) ≤ (cs : Int) := by omega
    have hgpl := HGA.out
    clear hgpl h f hw hh hsv hyv hcs ht hm hBs hgs hBy hgy hl hK hN k0 k1 f1 hlen hall hF hT hS h1 hw1 hval hvf hL hLne hnew hpos
    go_enter Tryz.func75, Tryz.ntmps75
    go_wp2_with (go_at_call 85; rw [← HW1.out]; refine (HGA.out _ _ (by omega)).mono ?_; rintro e w2 ⟨rfl, D', G', h2⟩; refine Hid.out ?_)
    refine Nu.hid ?_
    obtain ⟨g5, q5⟩ := HC5.out w2 D' G' h2
    have H2 := Nu.hid (HEND.out w2 D' G' h2)
    clear h2
    go_wp2
    go_end0
    exact H2.out
end Go.Proofs.YtalfpbalekbinaaGreat

/-
  leave: the finder goes back to a height on its way.
-/
namespace Go.Proofs.YtalfpbalekbinaaGreat
open Go.RowKit Go.Sort

/-- How long the way is, read off memory. -/
def wayLen (w : World) (p : Nat) : Nat := match w.cell? ⟨p, 6, none⟩ with | some (.slice _ n _) => n | _ => 0

theorem FinAt.wayForm {x : Fx} {w0 w : World} {S : List (Nat × Int)} {Y : List Nat} {F : List (List Nat)} (h : FinAt x w0 w S Y F) : ∃ ao c, w.cell? ⟨x.p, 6, none⟩ = some (.slice ao Y.length c) := by
  obtain ⟨sv, yv, D, G, h⟩ := h
  have c6 : w.cell? ⟨x.p, 6, none⟩ = some yv := (h.cells (i := 6) rfl).1
  obtain ⟨ao, c, e, _⟩ := h.way.form
  rw [List.length_map] at e
  exact ⟨ao, c, by rw [c6, e]⟩
theorem FinAt.wayLen {x : Fx} {w0 w : World} {S : List (Nat × Int)} {Y : List Nat} {F : List (List Nat)} (h : FinAt x w0 w S Y F) : wayLen w x.p = Y.length := by
  obtain ⟨ao, c, e⟩ := h.wayForm
  unfold Go.Proofs.YtalfpbalekbinaaGreat.wayLen
  rw [e]

def LeavePost (x : Fx) (w0 : World) (X : Nat → Prop) (T : List Nat) (d : Nat) (e : Ending) (w' : World) : Prop :=
  e = .returned (.tuple #[]) ∧ ∃ S' Y' F', FinAt x w0 w' S' Y' F' ∧ Bl.Fi x.es x.s X (T.take d) S' Y' F'

set_option maxRecDepth 100000 in
set_option maxHeartbeats 16000000 in
theorem leave_any9 (x : Fx) (w0 w : World) (X : Nat → Prop) (T : List Nat) (S : List (Nat × Int)) (Y : List Nat) (F : List (List Nat)) (d : Nat) (h : FinAt x w0 w S Y F) (f : Bl.Fi x.es x.s X T S Y F) (hd : d ≤ T.length)
    (hall : ∀ T1 t r, T = T1 ++ t :: r → d ≤ T1.length → ∀ e, e < x.es.length → Df.Anc x.es x.s (Lo.go_ x.es x.s t) (Bl.ev x.es x.s e) → X e) :
    Calls Tryz.prog 53 #[.pointer (some ⟨x.p, 0, none⟩), .int .i64 (d : Int)] w (LeavePost x w0 X T d) := by
  have hfew : x.es.length ≤ 4194304 := by
    obtain ⟨_, _, _, _, h⟩ := h
    exact h.ok.val.few
  have HA := Nu.hid hall
  have H := Nu.hid h
  have HF := Nu.hid f
  have HD := Nu.hid hd
  clear h f hall hd
  go_enter Tryz.func53, Tryz.ntmps53
  go_wp2
  go_loopw [10] (fun _ wr => ∃ T' S Y F, (∃ r, T = T' ++ r) ∧ d ≤ T'.length ∧ FinAt x w0 wr S Y F ∧ Bl.Fi x.es x.s X T' S Y F) (fun _ wr => wayLen wr x.p)
  case atStart => exact ⟨T, S, Y, F, ⟨[], by simp⟩, HD.out, H.out, HF.out⟩
  case round =>
    clear HF H
    obtain ⟨T', S, Y, F, ⟨r, hr⟩, hdT, hfin, hfi⟩ := hrel
    obtain ⟨ao, c, c6⟩ := hfin.wayForm
    have hlen := hfi.len
    have hTl := hfi.fewT
    by_cases hlt : d < Y.length
    · have hlti : (d : Int) < (Y.length : Int) := by omega
      have hT : T' ≠ [] := fun e => by rw [e] at hlen; simp at hlen; rw [hlen] at hlt; simp at hlt
      have hY : Y ≠ [] := fun e => by rw [e] at hlt; simp at hlt
      obtain ⟨T1, t, rfl⟩ : ∃ T1 t, T' = T1 ++ [t] := ⟨T'.dropLast, T'.getLast hT, (List.dropLast_concat_getLast hT).symm⟩
      obtain ⟨Y1, a, rfl⟩ : ∃ Y1 a, Y = Y1 ++ [a] := ⟨Y.dropLast, Y.getLast hY, (List.dropLast_concat_getLast hY).symm⟩
      have hdT1 : d ≤ T1.length := by simp at hlen hlt; omega
      have HFN := Nu.hid (finish_any x w0 wr X T1 t S Y1 a F hfin hfi (HA.out T1 t r (by rw [hr]; simp) hdT1))
      have HM : Hid (wayLen wr x.p = Y1.length + 1) := by
        show _ = _
        rw [hfin.wayLen]
        simp
      have HR : Hid (T = T1 ++ t :: r) := by show _ = _; rw [hr]; simp
      obtain ⟨K, hK⟩ : ∃ K, (Y1 ++ [a]).length = K := ⟨_, rfl⟩
      rw [hK] at c6 hlti
      clear hfin hfi hT hY hr hK hlen hTl hlt hdT
      go_wp2_with (go_at_call 75; refine HFN.out.mono ?_; rintro e w' ⟨rfl, S', F', hq1, hq2⟩; refine Hid.out ?_)
      refine Nu.hid ?_
      have HQ1 := Nu.hid hq1
      have HQ2 := Nu.hid hq2
      clear hq1 hq2
      go_wp2
      go_roundw
      case rel => exact ⟨T1, S', Y1, F', ⟨t :: r, HR.out⟩, hdT1, HQ1.out, HQ2.out⟩
      case measure => rw [HQ1.out.wayLen, HM.out]; omega
    · have hlti : ¬ (d : Int) < (Y.length : Int) := by omega
      have HE : Hid (LeavePost x w0 X T d (.returned (.tuple #[])) wr) := by
        refine ⟨rfl, S, Y, F, hfin, ?_⟩
        have : T.take d = T' := by rw [hr, show d = T'.length by omega, List.take_left]
        rw [this]
        exact hfi
      obtain ⟨K, hK⟩ : ∃ K, Y.length = K := ⟨_, rfl⟩
      rw [hK] at c6 hlti
      clear hfin hfi hr hK hlen hTl hlt hdT
      go_wp2
      go_end0
      exact HE.out
end Go.Proofs.YtalfpbalekbinaaGreat
