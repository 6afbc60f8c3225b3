import Derived.Test.YtalfpbalekbinaaMg17
import Derived.Test.YtalfpbalekbinaaMg12
import Derived.Test.YtalfpbalekbinaaMg00
import Derived.Deep.QuietTactic
import Derived.BigQuiet
/-
  finish: the finder goes back by its last tree edge; leave.
-/
namespace Go.Proofs.Ytalfpbalekbinaa
open Go.RowKit Go.Sort

namespace Bl
open Df Lo
section
variable {n : Nat} {es : List (Int × Int)} {s : St} {X : Nat → Prop} {T : List Nat} {S : List (Nat × Int)} {Y : List Nat} {F : List (List Nat)}
theorem Fi.few (f : Fi es s X T S Y F) : S.length ≤ es.length := by
  have h := nodup_sub (l1 := S.map Prod.fst) (l2 := List.range es.length) f.nod (fun x hx => List.mem_range.2 ((f.mem x).1 hx).1)
  simpa using h
theorem nodup_map_mn : ∀ {F : List (List Nat)}, (∀ B ∈ F, B ≠ []) → F.Pairwise (fun B B' => ∀ e ∈ B, e ∉ B') → (F.map mn).Nodup
  | [], _, _ => List.nodup_nil
  | B :: F, h, hp => by
    obtain ⟨h1, h2⟩ := List.pairwise_cons.1 hp
    rw [List.map_cons, List.nodup_cons]
    refine ⟨fun hm => ?_, nodup_map_mn (fun B hB => h B (List.mem_cons_of_mem _ hB)) h2⟩
    obtain ⟨B', hB', e⟩ := List.mem_map.1 hm
    have := mn_mem (h B List.mem_cons_self)
    exact h1 B' hB' _ this (by rw [← e]; exact mn_mem (h B' (List.mem_cons_of_mem _ hB')))
theorem Fi.full (hv : Si.Val n es) (h : VF n es s) (f : Fi es s X T S Y F) : ∀ B ∈ F, B ≠ [] := fun B hB e => by
  obtain ⟨c, c1, c2, _, _, _, c5⟩ := f.one B hB
  have := (c5 c).2 ⟨c1, hdf_eq hv h (.self c1 c2)⟩
  rw [e] at this
  cases this
theorem Fi.fewF (hv : Si.Val n es) (h : VF n es s) (f : Fi es s X T S Y F) : F.length ≤ es.length := by
  have hf := f.full hv h
  have := nodup_sub (l1 := F.map mn) (l2 := List.range es.length) (nodup_map_mn hf f.apart) (fun x hx => by
    obtain ⟨B, hB, rfl⟩ := List.mem_map.1 hx
    obtain ⟨c, _, _, _, _, _, c5⟩ := f.one B hB
    exact List.mem_range.2 ((c5 _).1 (mn_mem (hf B hB))).1)
  simpa using this
theorem Fi.fewT (f : Fi es s X T S Y F) : T.length ≤ es.length := by
  have hn : T.Nodup := by
    unfold List.Nodup
    rw [List.pairwise_iff_getElem]
    intro i j hi hj hij e
    have := f.path.inj (i := i) (k := j) (t := T[i]) (List.getElem?_eq_getElem hi) (by rw [e]; exact List.getElem?_eq_getElem hj)
    omega
  have := nodup_sub (l1 := T) (l2 := List.range es.length) hn (fun x hx => by
    obtain ⟨i, hi⟩ := List.getElem?_of_mem hx
    exact List.mem_range.2 (f.path.edge i x hi).1)
  simpa using this
/-- The last of the way. -/
theorem Fi.last {t a : Nat} (f : Fi es s X (T ++ [t]) S (Y ++ [a]) F) : ∃ l, S[a]? = some (t, l) := by
  have hlen : Y.length = T.length := by simpa using f.len
  obtain ⟨t', l, k1, k2, _⟩ := f.way Y.length a (last_at Y a)
  rw [hlen, last_at] at k1
  cases k1
  exact ⟨l, k2⟩
end
end Bl

/-- The finder, wherever its lists lie. -/
def FinAt (x : Fx) (w0 w : World) (S : List (Nat × Int)) (Y : List Nat) (F : List (List Nat)) : Prop := ∃ sv yv D G, FinIn x w0 w sv yv D G S Y F

section
variable {x : Fx} {w0 w w' : World} {sv yv : Value} {D : DataW Value} {G : Nat → Prop} {S : List (Nat × Int)} {Y : List Nat} {F : List (List Nat)}
theorem FinIn.pop {a gy cy : Nat} (h : FinIn x w0 w sv yv D G S (Y ++ [a]) F) (hv : yv = .slice (some ⟨gy, 0, none⟩) (Y.length + 1) cy) : FinIn x w0 (w.setCell ⟨x.p, 6, none⟩ (.slice (some ⟨gy, 0, none⟩) Y.length cy)) sv (.slice (some ⟨gy, 0, none⟩) Y.length cy) D G S Y F := by
  have hw : Wrote (FinW x sv yv) w (w.setCell ⟨x.p, 6, none⟩ (.slice (some ⟨gy, 0, none⟩) Y.length cy)) := (Wrote.refl _ w).setCell (.inl rfl) _
  have hown := h.way
  rw [List.map_append, hv] at hown
  have hfr : OwnZ w x.B (.slice (some ⟨gy, 0, none⟩) Y.length cy) (Y.map Nat.cast) := by
    have h2 := hown
    rw [show Y.length = (Y.map (Nat.cast : Nat → Int)).length by simp] at h2 ⊢
    exact OwnZ.front h2
  refine h.turn hw (heap_setCell_same w x.p 6 _ _ _ h.blk) ?_ ?_ ?_ (.inl rfl) (.inl (by rw [hv]; rfl))
  · exact h.stk.same fun g hg _ => heap_setCell_other w ⟨x.p, 6, none⟩ g _ (fun e => h.sfar h.ok.l4 (by rw [hg]; exact congrArg some e))
  · exact hfr.same fun g hg _ => heap_setCell_other w ⟨x.p, 6, none⟩ g _ (fun e => h.yfar h.ok.l4 (by rw [hv]; have e2 : gy = g := Option.some.inj hg; rw [show x.p = gy from (e2.trans e).symm]; rfl))
  · rcases h.ne with e | e
    · exact .inl e
    · exact .inr (fun e2 => e (by rw [e2, hv]; rfl))
theorem FinIn.cutS {a gs cs : Nat} (h : FinIn x w0 w sv yv D G S Y F) (hv : sv = .slice (some ⟨gs, 0, none⟩) S.length cs) (ha : a ≤ S.length) : FinIn x w0 (w.setCell ⟨x.p, 5, none⟩ (.slice (some ⟨gs, 0, none⟩) a cs)) (.slice (some ⟨gs, 0, none⟩) a cs) yv D G (S.take a) Y F := by
  have hw : Wrote (FinW x sv yv) w (w.setCell ⟨x.p, 5, none⟩ (.slice (some ⟨gs, 0, none⟩) a cs)) := (Wrote.refl _ w).setCell (.inl rfl) _
  refine h.turn hw (heap_setCell_same w x.p 5 _ _ _ h.blk) ?_ ?_ ?_ (.inl (by rw [hv]; rfl)) (.inl rfl)
  · exact (h.stk.cut ha hv).same fun g hg _ => heap_setCell_other w ⟨x.p, 5, none⟩ g _ (fun e => h.sfar h.ok.l4 (by rw [hv]; have e2 : gs = g := Option.some.inj hg; rw [show x.p = gs from (e2.trans e).symm]; rfl))
  · exact h.way.same fun g hg _ => heap_setCell_other w ⟨x.p, 5, none⟩ g _ (fun e => h.yfar h.ok.l4 (by rw [hg]; exact congrArg some e))
  · rcases h.ne with e | e
    · rw [hv] at e; cases e
    · exact .inr (fun e2 => e (by rw [hv]; exact e2))
end

def FinishPost (x : Fx) (w0 : World) (X : Nat → Prop) (T : List Nat) (Y : List Nat) (e : Ending) (w' : World) : Prop :=
  e = .returned (.tuple #[]) ∧ ∃ S' F', FinAt x w0 w' S' Y F' ∧ Bl.Fi x.es x.s X T S' Y F'

set_option maxRecDepth 100000 in
set_option maxHeartbeats 16000000 in
theorem finish_any (x : Fx) (w0 w : World) (X : Nat → Prop) (T : List Nat) (t : Nat) (S : List (Nat × Int)) (Y : List Nat) (a : Nat) (F : List (List Nat)) (h : FinAt x w0 w S (Y ++ [a]) F) (f : Bl.Fi x.es x.s X (T ++ [t]) S (Y ++ [a]) F) (hall : ∀ e, e < x.es.length → Df.Anc x.es x.s (Lo.go_ x.es x.s t) (Bl.ev x.es x.s e) → X e) :
    Calls Try.prog 92 #[.pointer (some ⟨x.p, 0, none⟩)] w (FinishPost x w0 X T Y) := by
  obtain ⟨sv, yv, D, G, h⟩ := h
  have hval := h.ok.val
  have hvf := h.ok.vf
  have hfew := hval.few
  obtain ⟨l, hl⟩ := f.last
  have hal := (List.getElem?_eq_some_iff.1 hl).1
  have hS := f.few
  have hT := f.fewT
  rw [List.length_append, List.length_singleton] at hT
  have hlen : Y.length = T.length := by simpa using f.len
  have hF := f.fewF hval hvf
  have hl0 : 0 ≤ l := f.pos _ (List.mem_of_getElem? hl)
  have hw := h.way
  rw [List.map_append] at hw
  obtain ⟨gy, cy, hyv, d0, hcy, hBy, hgy⟩ := hw.row_snoc
  rw [List.length_map] at hyv d0 hcy
  obtain ⟨gs, cs, cur, hsv, hcl, hh, hm, hcs, ht, hBs, hgs⟩ := h.stk.row hl
  obtain ⟨k0, k1⟩ := row_cells hh rfl ht hl
  have c5 : w.cell? ⟨x.p, 5, none⟩ = some sv := (h.cells (i := 5) rfl).1
  have c6 : w.cell? ⟨x.p, 6, none⟩ = some yv := (h.cells (i := 6) rfl).1
  have f6 : w.frozen? ⟨x.p, 6, none⟩ = false := (h.cells (i := 6) rfl).2
  have h1 := h.pop hyv
  obtain ⟨w1, hw1⟩ : ∃ w1, w1 = w.setCell ⟨x.p, 6, none⟩ (.slice (some ⟨gy, 0, none⟩) Y.length cy) := ⟨_, rfl⟩
  rw [← hw1] at h1
  have HW1 := Nu.hid hw1
  have H1 := Nu.hid h1
  have HF := Nu.hid f
  have HL := Nu.hid hl
  have hgp : gs ≠ x.p := fun e => by have := h.ok.l4; omega
  have d5 : w1.cell? ⟨x.p, 5, none⟩ = some sv := (h1.cells (i := 5) rfl).1
  have k1' : w1.cell? ⟨gs, a * 2 + 1, none⟩ = some (.int .i64 l) := by
    rw [hw1]
    exact (World.cell?_of_block (heap_setCell_other w ⟨x.p, 6, none⟩ gs _ hgp)).trans k1
  rw [hsv] at c5 d5
  rw [hyv] at c6
  rw [hw1] at k1' d5
  have e1 : ((Y.length : Int) + 1) - 1 = (Y.length : Int) := by omega
  have e2 : (0 : Int) ≤ (Y.length : Int) := by omega
  have e3 : (Y.length : Int) < (Y.length : Int) + 1 := by omega
  have e4 : (Y.length : Int) ≤ (cy : Int) := by omega
  have a0 : (0 : Int) ≤ (a : Int) := by omega
  have a1 : (a : Int) < (S.length : Int) := by omega
  by_cases hlt : l < (Y.length : Int)
  · obtain ⟨T1, t1, Y1, a1', l1, eT, eY, hl1, f1⟩ := f.leaveLow hval hvf hl hall (by omega)
    have HLW : Hid (Calls Try.prog 94 #[.pointer (some ⟨x.p, 0, none⟩), .int .i64 l] w1 (FinishPost x w0 X T Y)) := by
      have h2 := h1
      rw [eY] at h2
      refine (lower_any x w0 w1 sv _ D G S Y1 a1' t1 l1 l F h2 hl1 (by rw [eY] at hlen; simp at hlen; omega)).mono ?_
      rintro e w' ⟨rfl, hfin, -⟩
      rw [← eY] at hfin
      exact ⟨rfl, _, F, ⟨sv, _, D, G, hfin⟩, f1⟩
    obtain ⟨K, hK⟩ : ∃ K, Y.length = K := ⟨_, rfl⟩
    have hKb : K ≤ 4194304 := by omega
    rw [hK] at c6 d0 hcy e1 e2 e3 e4 hlt HW1 k1' d5
    obtain ⟨N, hN⟩ : ∃ N, S.length = N := ⟨_, rfl⟩
    rw [hN] at c5 d5 a1
    clear h f hw hh hsv hyv hcl hcs ht hm hBs hgs hBy hgy hl hK hN k0 k1 eT eY hl1 f1 hlen hall hF hT hal hS h1 hw1 hval hvf
    go_enter Try.func92, Try.ntmps92
    go_wp2_with (go_at_call 94; rw [← HW1.out]; refine HLW.out.mono ?_; rintro e w' ⟨rfl, hq⟩; refine Hid.out ?_)
    refine Nu.hid ?_
    have HQ := Nu.hid hq
    clear hq
    go_wp2
    (try simp only [Exit.inBlock, Exit.then])
    refine bodyPost_ret (results_none rfl _ _ _) rfl ?_
    exact ⟨rfl, HQ.out⟩
  · have f1 := f.leaveHead hval hvf hl hall (by omega)
    obtain ⟨L, hL⟩ : ∃ L, L = (S.drop a).map Prod.fst := ⟨_, rfl⟩
    rw [← hL] at f1
    have hLne : L ≠ [] := f1.full hval hvf L (by simp)
    have hnew : ∀ L' ∈ F, Bl.mn L' ≠ Bl.mn L := fun L' hL' e => by
      have hp := (List.pairwise_append.1 f1.apart).2.2 L' hL' L (by simp)
      exact hp _ (Bl.mn_mem (f1.full hval hvf L' (List.mem_append_left _ hL'))) (by rw [e]; exact Bl.mn_mem hLne)
    have hpos : ∀ y ∈ L, y < 4194304 := fun y hy => by
      obtain ⟨c, _, _, _, _, _, c5⟩ := f1.one L (by simp)
      have := ((c5 y).1 hy).1
      omega
    have HGA : Hid (∀ k c, a + k = S.length → Calls Try.prog 102 #[.pointer (some ⟨x.p, 0, none⟩), .slice (some ⟨gs, a * 2, none⟩) k c] w1 fun e w' => e = .returned (.tuple #[]) ∧ ∃ D' G', FinIn x w0 w' sv (.slice (some ⟨gy, 0, none⟩) Y.length cy) D' G' S Y (F ++ [L])) := fun k c hk =>
      gather_any9 x w0 w1 sv _ D G S Y F a gs cs k L h1 hsv hal hk hL (by omega) (by omega) hpos hnew c
    have HEND : Hid (∀ w2 D' G', FinIn x w0 w2 sv (.slice (some ⟨gy, 0, none⟩) Y.length cy) D' G' S Y (F ++ [L]) → FinishPost x w0 X T Y (.returned (.tuple #[])) (w2.setCell ⟨x.p, 5, none⟩ (.slice (some ⟨gs, 0, none⟩) a cs))) := fun w2 D' G' h2 =>
      ⟨rfl, _, _, ⟨_, _, D', G', h2.cutS hsv (by omega)⟩, f1⟩
    have HC5 : Hid (∀ w2 D' G', FinIn x w0 w2 sv (.slice (some ⟨gy, 0, none⟩) Y.length cy) D' G' S Y (F ++ [L]) → w2.cell? ⟨x.p, 5, none⟩ = some (.slice (some ⟨gs, 0, none⟩) S.length cs) ∧ w2.frozen? ⟨x.p, 5, none⟩ = false) := fun w2 D' G' h2 => by
      have := h2.cells (i := 5) (u := sv) rfl
      rwa [hsv] at this
    obtain ⟨K, hK⟩ : ∃ K, Y.length = K := ⟨_, rfl⟩
    have hKb : K ≤ 4194304 := by omega
    rw [hK] at c6 d0 hcy e1 e2 e3 e4 hlt HW1 k1' d5 HGA HEND HC5
    obtain ⟨N, hN⟩ : ∃ N, S.length = N := ⟨_, rfl⟩
    rw [hN] at c5 d5 a1 HGA HC5 hal hcl
    have hNb : N ≤ 4194304 := by omega
    have a2 : (a : Int) ≤ (N : Int) := by omega
    have a3 : (a : Int) ≤ (cs : Int) := by omega
    have hgpl := HGA.out
    clear hgpl h f hw hh hsv hyv hcs ht hm hBs hgs hBy hgy hl hK hN k0 k1 f1 hlen hall hF hT hS h1 hw1 hval hvf hL hLne hnew hpos
    go_enter Try.func92, Try.ntmps92
    go_wp2_with (go_at_call 102; rw [← HW1.out]; refine (HGA.out _ _ (by omega)).mono ?_; rintro e w2 ⟨rfl, D', G', h2⟩; refine Hid.out ?_)
    refine Nu.hid ?_
    obtain ⟨g5, q5⟩ := HC5.out w2 D' G' h2
    have H2 := Nu.hid (HEND.out w2 D' G' h2)
    clear h2
    go_wp2
    go_end0
    exact H2.out
end Go.Proofs.Ytalfpbalekbinaa

/-
  leave: the finder goes back to a height on its way.
-/
namespace Go.Proofs.Ytalfpbalekbinaa
open Go.RowKit Go.Sort

/-- How long the way is, read off memory. -/
def wayLen (w : World) (p : Nat) : Nat := match w.cell? ⟨p, 6, none⟩ with | some (.slice _ n _) => n | _ => 0

theorem FinAt.wayForm {x : Fx} {w0 w : World} {S : List (Nat × Int)} {Y : List Nat} {F : List (List Nat)} (h : FinAt x w0 w S Y F) : ∃ ao c, w.cell? ⟨x.p, 6, none⟩ = some (.slice ao Y.length c) := by
  obtain ⟨sv, yv, D, G, h⟩ := h
  have c6 : w.cell? ⟨x.p, 6, none⟩ = some yv := (h.cells (i := 6) rfl).1
  obtain ⟨ao, c, e, _⟩ := h.way.form
  rw [List.length_map] at e
  exact ⟨ao, c, by rw [c6, e]⟩
theorem FinAt.wayLen {x : Fx} {w0 w : World} {S : List (Nat × Int)} {Y : List Nat} {F : List (List Nat)} (h : FinAt x w0 w S Y F) : wayLen w x.p = Y.length := by
  obtain ⟨ao, c, e⟩ := h.wayForm
  unfold Go.Proofs.Ytalfpbalekbinaa.wayLen
  rw [e]

def LeavePost (x : Fx) (w0 : World) (X : Nat → Prop) (T : List Nat) (d : Nat) (e : Ending) (w' : World) : Prop :=
  e = .returned (.tuple #[]) ∧ ∃ S' Y' F', FinAt x w0 w' S' Y' F' ∧ Bl.Fi x.es x.s X (T.take d) S' Y' F'

set_option maxRecDepth 100000 in
set_option maxHeartbeats 16000000 in
theorem leave_any9 (x : Fx) (w0 w : World) (X : Nat → Prop) (T : List Nat) (S : List (Nat × Int)) (Y : List Nat) (F : List (List Nat)) (d : Nat) (h : FinAt x w0 w S Y F) (f : Bl.Fi x.es x.s X T S Y F) (hd : d ≤ T.length)
    (hall : ∀ T1 t r, T = T1 ++ t :: r → d ≤ T1.length → ∀ e, e < x.es.length → Df.Anc x.es x.s (Lo.go_ x.es x.s t) (Bl.ev x.es x.s e) → X e) :
    Calls Try.prog 70 #[.pointer (some ⟨x.p, 0, none⟩), .int .i64 (d : Int)] w (LeavePost x w0 X T d) := by
  have hfew : x.es.length ≤ 4194304 := by
    obtain ⟨_, _, _, _, h⟩ := h
    exact h.ok.val.few
  have HA := Nu.hid hall
  have H := Nu.hid h
  have HF := Nu.hid f
  have HD := Nu.hid hd
  clear h f hall hd
  go_enter Try.func70, Try.ntmps70
  go_wp2
  go_loopw [10] (fun _ wr => ∃ T' S Y F, (∃ r, T = T' ++ r) ∧ d ≤ T'.length ∧ FinAt x w0 wr S Y F ∧ Bl.Fi x.es x.s X T' S Y F) (fun _ wr => wayLen wr x.p)
  case atStart => exact ⟨T, S, Y, F, ⟨[], by simp⟩, HD.out, H.out, HF.out⟩
  case round =>
    clear HF H
    obtain ⟨T', S, Y, F, ⟨r, hr⟩, hdT, hfin, hfi⟩ := hrel
    obtain ⟨ao, c, c6⟩ := hfin.wayForm
    have hlen := hfi.len
    have hTl := hfi.fewT
    by_cases hlt : d < Y.length
    · have hlti : (d : Int) < (Y.length : Int) := by omega
      have hT : T' ≠ [] := fun e => by rw [e] at hlen; simp at hlen; rw [hlen] at hlt; simp at hlt
      have hY : Y ≠ [] := fun e => by rw [e] at hlt; simp at hlt
      obtain ⟨T1, t, rfl⟩ : ∃ T1 t, T' = T1 ++ [t] := ⟨T'.dropLast, T'.getLast hT, (List.dropLast_concat_getLast hT).symm⟩
      obtain ⟨Y1, a, rfl⟩ : ∃ Y1 a, Y = Y1 ++ [a] := ⟨Y.dropLast, Y.getLast hY, (List.dropLast_concat_getLast hY).symm⟩
      have hdT1 : d ≤ T1.length := by simp at hlen hlt; omega
      have HFN := Nu.hid (finish_any x w0 wr X T1 t S Y1 a F hfin hfi (HA.out T1 t r (by rw [hr]; simp) hdT1))
      have HM : Hid (wayLen wr x.p = Y1.length + 1) := by
        show _ = _
        rw [hfin.wayLen]
        simp
      have HR : Hid (T = T1 ++ t :: r) := by show _ = _; rw [hr]; simp
      obtain ⟨K, hK⟩ : ∃ K, (Y1 ++ [a]).length = K := ⟨_, rfl⟩
      rw [hK] at c6 hlti
      clear hfin hfi hT hY hr hK hlen hTl hlt hdT
      go_wp2_with (go_at_call 92; refine HFN.out.mono ?_; rintro e w' ⟨rfl, S', F', hq1, hq2⟩; refine Hid.out ?_)
      refine Nu.hid ?_
      have HQ1 := Nu.hid hq1
      have HQ2 := Nu.hid hq2
      clear hq1 hq2
      go_wp2
      go_roundw
      case rel => exact ⟨T1, S', Y1, F', ⟨t :: r, HR.out⟩, hdT1, HQ1.out, HQ2.out⟩
      case measure => rw [HQ1.out.wayLen, HM.out]; omega
    · have hlti : ¬ (d : Int) < (Y.length : Int) := by omega
      have HE : Hid (LeavePost x w0 X T d (.returned (.tuple #[])) wr) := by
        refine ⟨rfl, S, Y, F, hfin, ?_⟩
        have : T.take d = T' := by rw [hr, show d = T'.length by omega, List.take_left]
        rw [this]
        exact hfi
      obtain ⟨K, hK⟩ : ∃ K, Y.length = K := ⟨_, rfl⟩
      rw [hK] at c6 hlti
      clear hfin hfi hr hK hlen hTl hlt hdT
      go_wp2
      go_end0
      exact HE.out
end Go.Proofs.Ytalfpbalekbinaa

/-
  Blocks, pure: the finder goes by the order of the walk: what is left and what is laid at a vertex.
-/
namespace Go.Proofs.Ytalfpbalekbinaa
namespace Bl
open Df Lo

section
variable {n : Nat} {es : List (Int × Int)} {s : St}

/-- Who is above whom, by places. -/
theorem anc_ord (h : VF n es s) : ∃ E : Nat → Int, ∀ a j, a < n → j < n → (Anc es s (at_ s.ord a) (at_ s.ord j) ↔ a ≤ j ∧ (j : Int) < E a) := by
  obtain ⟨⟨W, B⟩, hs⟩ := h.side
  refine ⟨fun a => at_ (ends n W B) (at_ s.ord a).toNat, fun a j ha hj => ?_⟩
  have hend := side_end (es := es) h.once hs ha hj
  obtain ⟨_, ⟨Y, hY⟩, hw, _, _⟩ := (side_inv h.once n (Nat.le_refl _) W B hs).hist j hj
  rw [hY] at hw hend
  rw [Anc.iff hw]
  exact hend

/-- v is one of the first j. -/
def En (s : St) (j v : Nat) : Prop := ∃ a, a < j ∧ at_ s.ord a = (v : Int)
/-- The vertex number j. -/
def vtx (s : St) (j : Nat) : Nat := (at_ s.ord j).toNat
theorem vtx_eq (h : VF n es s) {j : Nat} (hj : j < n) : at_ s.ord j = (vtx s j : Int) ∧ vtx s j < n := by
  have := (h.once j hj).1
  unfold vtx
  omega
theorem en_not (h : VF n es s) {j : Nat} (hj : j < n) : ¬ En s j (vtx s j) := fun ⟨a, ha, e⟩ => by
  have := h.once.ne (a := a) (b := j) (by omega) hj (by omega)
  rw [(vtx_eq h hj).1] at this
  exact this e
theorem en_succ (h : VF n es s) {j v : Nat} (hj : j < n) : En s (j + 1) v ↔ En s j v ∨ v = vtx s j := by
  constructor
  · rintro ⟨a, ha, e⟩
    by_cases hja : a = j
    · subst hja
      have := (vtx_eq h hj).1
      exact .inr (by omega)
    · exact .inl ⟨a, by omega, e⟩
  · rintro (⟨a, ha, e⟩ | rfl)
    · exact ⟨a, by omega, e⟩
    · exact ⟨j, by omega, (vtx_eq h hj).1⟩
theorem en_all (h : VF n es s) {v : Nat} (hv : v < n) : En s n v := h.once.onto hv
theorem en_zero (v : Nat) : ¬ En s 0 v := fun ⟨a, ha, _⟩ => by omega

/-- Nothing below the vertex number j has come. -/
theorem below_late (h : VF n es s) {j y : Nat} (hj : j < n) (ha : Anc es s (vtx s j) y) : ¬ En s j y := fun ⟨a, haj, e⟩ => by
  obtain ⟨E, hE⟩ := anc_ord h
  rw [← (vtx_eq h hj).1, ← e] at ha
  have := (hE j a hj (by omega)).1 ha
  omega

/-- Where the finder stands when j vertices have come. -/
structure Pos (es : List (Int × Int)) (s : St) (j : Nat) (T : List Nat) : Prop where
  none : j = 0 → T = []
  anc : ∀ t ∈ T, ∃ i, j = i + 1 ∧ Anc es s (go_ es s t) (vtx s i)
  len : ∀ i, j = i + 1 → (T.length : Int) = at_ s.hei (vtx s i)

/-- What is left ahead of the vertex number j. -/
def dep (s : St) (j : Nat) : Nat := (at_ s.hei (vtx s j) - 1).toNat

theorem Pos.deep (hv : Si.Val n es) (h : VF n es s) {j : Nat} {T : List Nat} (hj : j < n) (p : Pos es s j T) : dep s j ≤ T.length := by
  obtain ⟨e0, hvn⟩ := vtx_eq h hj
  have hr := rooted_of hv h.once h.hang h.side
  cases j with
  | zero =>
    -- the first one is a root
    have h0 : at_ s.hei (vtx s 0) = 0 := by
      rcases (h.hang _ hvn).cases hv with ⟨_, _, h3⟩ | ⟨u, hun, hup, _, _⟩
      · exact h3
      · exfalso
        obtain ⟨k, hk, tk, gk, fk⟩ := hang_edge h hvn hup (by omega)
        have ha := child_anc hv h hk tk
        obtain ⟨a, han, ea⟩ := h.once.onto (ends_lt hv h hk).1
        obtain ⟨E, hE⟩ := anc_ord h
        rw [gk, ← e0, ← ea] at ha
        have := (hE a 0 han hj).1 ha
        obtain rfl : a = 0 := by omega
        rw [e0] at ea
        have := ends_ne hv h hk
        rw [gk] at this
        omega
    unfold dep
    omega
  | succ i =>
    have hl := p.len i rfl
    unfold dep
    rcases (h.hang _ hvn).cases hv with ⟨_, _, h3⟩ | ⟨u, hun, hup, _, _⟩
    · omega
    · obtain ⟨k, hk, tk, gk, fk⟩ := hang_edge h hvn hup (by omega)
      have ha := child_anc hv h hk tk
      have hh := (tree_up hv h hk tk).2
      unfold Lo.ht hf at hh
      rw [gk] at ha hh
      obtain ⟨a, han, ea⟩ := h.once.onto (ends_lt hv h hk).1
      obtain ⟨E, hE⟩ := anc_ord h
      obtain ⟨ei, hin⟩ := vtx_eq h (j := i) (by omega)
      have hne : a ≠ i + 1 := fun e => by
        rw [e, e0] at ea
        have := ends_ne hv h hk
        rw [gk] at this
        omega
      have h1 := (hE a (i + 1) han hj).1 (by rw [e0, ea]; exact ha)
      have h2 := (hE a i han (by omega)).2 ⟨by omega, by omega⟩
      rw [ei, ea] at h2
      by_cases e : fr es s k = vtx s i
      · rw [e] at hh
        omega
      · have := anc_height hv h.once h.hang h.side hin e h2
        omega

/-- All below a tree edge that is left has come. -/
theorem Pos.whole (hv : Si.Val n es) (h : VF n es s) {j : Nat} {T : List Nat} (hj : j < n) (p : Pos es s j T) (P : Path es s T) {T1 r : List Nat} {t : Nat} (hT : T = T1 ++ t :: r) (hd : dep s j ≤ T1.length) {y : Nat} (hy : y < n) (ha : Anc es s (go_ es s t) y) : En s j y := by
  have htm : t ∈ T := by rw [hT]; simp
  obtain ⟨i, rfl, hai⟩ := p.anc t htm
  obtain ⟨e0, hvn⟩ := vtx_eq h hj
  obtain ⟨ei, hin⟩ := vtx_eq h (j := i) (by omega)
  obtain ⟨E, hE⟩ := anc_ord h
  have hget : T[T1.length]? = some t := by rw [hT]; simp
  have hht := P.ht hv h hget
  have htl := (P.edge _ _ hget).1
  have hgn := (ends_lt hv h htl).2
  obtain ⟨a, han, ea⟩ := h.once.onto hgn
  obtain ⟨b, hbn, eb⟩ := h.once.onto hy
  have h1 := (hE a i han (by omega)).1 (by rw [ei, ea]; exact hai)
  have h2 := (hE a b han hbn).1 (by rw [ea, eb]; exact ha)
  by_cases hb : b < i + 1
  · exact ⟨b, hb, eb⟩
  · exfalso
    have h3 := (hE a (i + 1) han hj).2 ⟨by omega, by omega⟩
    rw [ea, e0] at h3
    have hne : go_ es s t ≠ vtx s (i + 1) := fun e => by
      have h4 := h.once.ne (a := a) (b := i + 1) han hj (by omega)
      rw [ea, e0, e] at h4
      exact h4 rfl
    have := anc_height hv h.once h.hang h.side hvn hne h3
    unfold dep at hd
    omega

/-- The tree edge by which the vertex number j is reached. -/
theorem Pos.step (hv : Si.Val n es) (h : VF n es s) {j : Nat} {T : List Nat} (hj : j < n) (p : Pos es s j T) (P : Path es s T) (hp : at_ s.par (vtx s j) ≠ -1) :
    ∃ (t g : Nat), at_ s.par (vtx s j) = (g : Int) ∧ g / 2 = t ∧ t < es.length ∧ tree es s t = true ∧ go_ es s t = vtx s j ∧ hf es s t = at_ s.hei (vtx s j) - 1 ∧ hf es s t = ((T.take (dep s j)).length : Int) ∧ (∀ t', (T.take (dep s j)).getLast? = some t' → fr es s t = go_ es s t') ∧ Path es s (T.take (dep s j)) ∧ Pos es s (j + 1) (T.take (dep s j) ++ [t]) := by
  obtain ⟨e0, hvn⟩ := vtx_eq h hj
  have hdl := p.deep hv h hj
  rcases (h.hang _ hvn) with ⟨h1, _⟩ | ⟨g, g1, g2, g3, g4, g5⟩
  · exact absurd h1 hp
  have hgl : g / 2 < es.length := by omega
  have hoh : oh s (g / 2) = g := by unfold oh; rw [g4]; omega
  have hgo : go_ es s (g / 2) = vtx s j := by unfold go_; rw [hoh]; exact g3
  have htr : tree es s (g / 2) = true := (tree_iff h hgl).2 (by rw [hgo, hoh]; exact g2)
  have hh := (tree_up hv h hgl htr).2
  unfold Lo.ht at hh
  rw [hgo] at hh
  have hr := rooted_of hv h.once h.hang h.side
  have hfr := ends_lt hv h hgl
  have hf0 := (hr _ hfr.1).1
  have hfd : hf es s (g / 2) = (dep s j : Int) := by unfold dep; unfold hf at hh ⊢; omega
  have htl : (T.take (dep s j)).length = dep s j := by simp; omega
  have hPt : Path es s (T.take (dep s j)) := by
    have hg : ∀ i x, (T.take (dep s j))[i]? = some x → T[i]? = some x := fun i x hx => by
      have := (List.getElem?_eq_some_iff.1 hx).1
      rw [List.getElem?_take_of_lt (by omega)] at hx
      exact hx
    exact ⟨fun i x hx => P.edge i x (hg i x hx), fun i x y hx hy => P.next i x y (hg i x hx) (hg _ y hy)⟩
  have hlast : ∀ t', (T.take (dep s j)).getLast? = some t' → fr es s (g / 2) = go_ es s t' := fun t' ht' => by
    rw [List.getLast?_eq_getElem?, htl] at ht'
    have hlt := (List.getElem?_eq_some_iff.1 ht').1
    have h5 := hPt.ht hv h ht'
    have hm : t' ∈ T := List.mem_of_mem_take (List.mem_of_getElem? ht')
    obtain ⟨i, rfl, hai⟩ := p.anc t' hm
    obtain ⟨ei, hin⟩ := vtx_eq h (j := i) (by omega)
    -- the parent stands above the vertex that came last
    have ha := child_anc hv h hgl htr
    rw [hgo] at ha
    obtain ⟨E, hE⟩ := anc_ord h
    obtain ⟨a, han, ea⟩ := h.once.onto hfr.1
    have hne : a ≠ i + 1 := fun e => by
      rw [e, e0] at ea
      have := ends_ne hv h hgl
      rw [hgo] at this
      omega
    have h1 := (hE a (i + 1) han hj).1 (by rw [e0, ea]; exact ha)
    have h2 := (hE a i han (by omega)).2 ⟨by omega, by omega⟩
    rw [ei, ea] at h2
    have htl' := (hPt.edge _ _ ht').1
    refine anc_same hv h hin hfr.1 (ends_lt hv h htl').2 h2 hai ?_
    unfold hf at hfd
    rw [hfd, h5]
    omega
  have hPm := hPt.more hgl htr (by rw [htl]; exact hfd) hlast
  refine ⟨g / 2, g, g2, rfl, hgl, htr, hgo, by omega, by rw [htl]; exact hfd, hlast, hPt, ⟨fun e => by omega, fun t ht => ⟨j, rfl, ?_⟩, fun i hi => ?_⟩⟩
  · obtain ⟨i, hi⟩ := List.getElem?_of_mem ht
    have hil := (List.getElem?_eq_some_iff.1 hi).1
    simp only [List.length_append, List.length_singleton] at hil
    have := hPm.anc hv h hi ((T.take (dep s j)).length - i) (g / 2) (by rw [show i + ((T.take (dep s j)).length - i) = (T.take (dep s j)).length by omega]; exact last_at _ _)
    rw [hgo] at this
    exact this
  · obtain rfl : i = j := by omega
    rw [List.length_append, htl, List.length_singleton]
    omega

/-- At a root nothing is laid. -/
theorem Pos.root (hv : Si.Val n es) (h : VF n es s) {j : Nat} {T : List Nat} (hj : j < n) (hp : at_ s.par (vtx s j) = -1) : T.take (dep s j) = [] ∧ Pos es s (j + 1) ([] : List Nat) ∧ at_ s.hei (vtx s j) = 0 ∧ ∀ e, e < es.length → ev es s e ≠ vtx s j := by
  obtain ⟨e0, hvn⟩ := vtx_eq h hj
  have hr := rooted_of hv h.once h.hang h.side
  have h0 : at_ s.hei (vtx s j) = 0 := (hr _ hvn).2.2.2 hp
  have hd : dep s j = 0 := by unfold dep; omega
  refine ⟨by rw [hd]; rfl, ⟨fun e => by omega, fun t ht => (by cases ht), fun i hi => ?_⟩, h0, fun e he hev => ?_⟩
  · obtain rfl : i = j := by omega
    rw [h0]
    rfl
  · cases te : tree es s e with
    | true =>
      rw [ev_tree te] at hev
      have h1 := (tree_iff h he).1 te
      rw [hev, hp] at h1
      omega
    | false =>
      rw [ev_back te] at hev
      have h1 := back_up hv h he te
      have h2 := (hr _ (ends_lt hv h he).2).1
      unfold Lo.ht hf at h1
      rw [hev] at h1
      omega

/-- A half-edge by which a back edge is walked. -/
def bk (es : List (Int × Int)) (s : St) (i : Nat) : Prop := at_ s.ori (i / 2) = (i : Int) ∧ at_ s.par (Cs.to es i) ≠ (i : Int)
theorem bk_back (h : VF n es s) {i : Nat} (hi : i < 2 * es.length) (hb : bk es s i) : i / 2 < es.length ∧ tree es s (i / 2) = false ∧ fr es s (i / 2) = Cs.fr es i ∧ go_ es s (i / 2) = Cs.to es i := by
  have hil : i / 2 < es.length := by omega
  have hoh : oh s (i / 2) = i := by unfold oh; rw [hb.1]; omega
  refine ⟨hil, ?_, by unfold fr; rw [hoh], by unfold go_; rw [hoh]⟩
  cases te : tree es s (i / 2) with
  | false => rfl
  | true =>
    have := (tree_iff h hil).1 te
    unfold go_ at this
    rw [hoh] at this
    exact absurd this hb.2
theorem back_bk (h : VF n es s) {e : Nat} (he : e < es.length) (tb : tree es s e = false) : oh s e < 2 * es.length ∧ oh s e / 2 = e ∧ bk es s (oh s e) ∧ Cs.fr es (oh s e) = fr es s e := by
  obtain ⟨h1, h2, h3, h4⟩ := oh_of h he
  refine ⟨h3, h4, ⟨by rw [h4]; exact h1, fun e1 => ?_⟩, rfl⟩
  have := (tree_iff h he).2 e1
  rw [this] at tb
  cases tb
/-- The edges that are laid at the vertex number j. -/
theorem laid_succ (h : VF n es s) {j t : Nat} (hj : j < n) (ht : t < es.length) (tt : tree es s t = true) (gt : go_ es s t = vtx s j) {e : Nat} (he : e < es.length) :
    En s (j + 1) (ev es s e) ↔ (En s j (ev es s e) ∨ e = t) ∨ (tree es s e = false ∧ fr es s e = vtx s j) := by
  rw [en_succ h hj]
  constructor
  · rintro (h1 | h1)
    · exact .inl (.inl h1)
    · cases te : tree es s e with
      | true =>
        rw [ev_tree te] at h1
        exact .inl (.inr (tree_one h he ht te tt (h1.trans gt.symm)))
      | false =>
        rw [ev_back te] at h1
        exact .inr ⟨rfl, h1⟩
  · rintro ((h1 | rfl) | ⟨te, h1⟩)
    · exact .inl h1
    · exact .inr (by rw [ev_tree tt]; exact gt)
    · exact .inr (by rw [ev_back te]; exact h1)
theorem laid_root (hv : Si.Val n es) (h : VF n es s) {j : Nat} (hj : j < n) (hp : at_ s.par (vtx s j) = -1) {e : Nat} (he : e < es.length) : En s (j + 1) (ev es s e) ↔ En s j (ev es s e) := by
  rw [en_succ h hj]
  exact ⟨fun hx => hx.elim id (fun hx => absurd hx ((Pos.root (T := []) hv h hj hp).2.2.2 e he)), .inl⟩
end
end Bl
end Go.Proofs.Ytalfpbalekbinaa

/-
  A region that draws its order and whose operations only read, calls among them that only make memory: one walk serves every order.
-/
namespace Go.Proofs.Ytalfpbalekbinaa
open Go.RowKit

/-- A world in which there is w, and more. -/
structure LW (w : World) where
  val : World
  h : Below w.heap.size w val

theorem LW.any (w : World) : Nonempty (LW w) := ⟨⟨w, Below.refl _ _⟩⟩

theorem wp_region_lw {P : Program} {id : Nat} {Q : Exit → Act → World → Prop} {a : Act} {w : World} {l : List Oper} (hm : P.follows .mixedOrders = true) (hB : Region.lexB .any l.toArray = true)
    (h : wpQuiet P l.toArray (fun w' => ∃ D : LW w, w' = D.val) (fun a' => ∀ w', (∃ D : LW w, w' = D.val) → Q .normal a' w') l a) : (Code.region id l.toArray true).wp P Q a w :=
  wp_region_quiet (C := fun w' => ∃ D : LW w, w' = D.val) hm hB ⟨⟨w.drew, (Below.refl _ _).drew⟩, rfl⟩ (by simpa using h)

theorem Calls.lw {P : Program} {f : FuncId} {args : Array Value} {w : World} {D : LW w} {v : Value}
    (h : Calls P f args D.val fun e w' => e = .returned v ∧ Below D.val.heap.size D.val w') : Calls P f args D.val fun e w'' => e = .returned v ∧ ∃ D' : LW w, w'' = D'.val :=
  h.mono fun _ w' ⟨he, hb⟩ => ⟨he, ⟨w', D.h.trans (hb.mono D.h.size)⟩, rfl⟩

end Go.Proofs.Ytalfpbalekbinaa
