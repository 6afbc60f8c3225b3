/-
  Proved: for every number, every list of pairs and every graph the law SimpleOwn answers true, and all reads afterwards as before.
-/
import Derived.Test.YtmgjfakdjponoabDoorSiOpen
import Derived.Test.YtmgjfakdjponoabDoorSiWakes
import Derived.Test.YtmgjfakdjponoabDoorSiRMake
import Derived.Test.YtmgjfakdjponoabDoorSiREq
import Derived.Test.YtmgjfakdjponoabDoorSiPairs
import Derived.Test.YtmgjfakdjponoabDoorSiTwo
import Derived.Test.YtmgjfakdjponoabDoorSiEqP
import Derived.Test.YtmgjfakdjponoabDoorSiDegOwn
import Derived.BigRegion
import Derived.BigQuiet
import Derived.Deep.CutRange
namespace Go.Proofs.YtmgjfakdjponoabDoor
open Go.ChangeShapes Go.WideShapes Go.ChangeAt Go.RowKit

namespace lawSOwn

theorem mk_few (n : Int) (ps : List (Int × Int)) : (Si.mk n ps).2.1.length ≤ 4194304 := by
  unfold Si.mk
  split
  · simp
  · split
    · simp
    · dsimp only; omega

/-- What the document's Make answers, of the graph and the error's number themselves. -/
def RMakeN (r : Int × List (Int × Int) × Int) (w : World) (e : Ending) (w' : World) : Prop :=
  ∃ ao cap, e = .returned (.tuple #[.agg #[.int .i64 r.1, .slice ao r.2.1.length cap], .int .i64 r.2.2]) ∧ EdgesAt w' ao r.2.1 ∧ Below w.heap.size w w' ∧ ∀ x, ao = some x → w.heap.size ≤ x.block

theorem kept1 {w : World} {b : Nat} {o : Obj} (A : Obj) (h : w.heap[b]? = some o) : (w.alloc A).heap[b]? = some o := by
  rw [Below.heap_alloc _ _ _ (lt_of_block h)]
  exact h

theorem owne_at {w : World} {B m c : Nat} {a : Option Addr} {l : List (Int × Int)} (h : OwnE w B (.slice a m c) l) : EdgesAt w a l := by
  obtain ⟨ao, cap, h1, _, _, h2, _⟩ := h.form
  injection h1 with h1
  subst h1
  exact h2

/-- Four boxes, b's list and want's list. -/
structure St (gG gA gC gD Bu : Nat) (oG oA oC oD : Obj) (vU : Value) (ra : Option Addr) (rl : List (Int × Int)) (W : World) : Prop where
  g : W.heap[gG]? = some oG
  a : W.heap[gA]? = some oA
  c : W.heap[gC]? = some oC
  d : W.heap[gD]? = some oD
  u : OwnE W Bu vU rl
  e : EdgesAt W ra rl

section
variable {gG gA gC gD Bu : Nat} {oG oA oC oD : Obj} {vU : Value} {ra : Option Addr} {rl : List (Int × Int)} {W W' : World}

theorem St.later (h : St gG gA gC gD Bu oG oA oC oD vU ra rl W) (hb : Below W.heap.size W W') : St gG gA gC gD Bu oG oA oC oD vU ra rl W' :=
  ⟨(hb.block _ (lt_of_block h.g)).trans h.g, (hb.block _ (lt_of_block h.a)).trans h.a, (hb.block _ (lt_of_block h.c)).trans h.c, (hb.block _ (lt_of_block h.d)).trans h.d, h.u.below hb (Nat.le_refl _), h.e.later hb⟩

theorem St.grown {row : Option Nat} (h : St gG gA gC gD Bu oG oA oC oD vU ra rl W) (hg : W.grownBy W' row) (h1 : some gG ≠ row) (h2 : some gA ≠ row) (h3 : some gC ≠ row) (h4 : some gD ≠ row) (h5 : vU.ownBlock = none ∨ vU.ownBlock ≠ row) (h6 : ∀ x, ra = some x → some x.block ≠ row) : St gG gA gC gD Bu oG oA oC oD vU ra rl W' := by
  refine ⟨(hg.block _ (lt_of_block h.g) h1).trans h.g, (hg.block _ (lt_of_block h.a) h2).trans h.a, (hg.block _ (lt_of_block h.c) h3).trans h.c, (hg.block _ (lt_of_block h.d) h4).trans h.d, World.ownsRow.kept h.u hg h5, fun j p hj => ?_⟩
  obtain ⟨b, o, e, c0, c1⟩ := h.e j p hj
  exact ⟨b, o, e, hg.cell c0 (h6 ⟨b, o, none⟩ e), hg.cell c1 (h6 ⟨b, o, none⟩ e)⟩
end

theorem set_grown (w : World) (g i : Nat) (u : Value) : w.grownBy (w.setCell ⟨g, i, none⟩ u) (some g) := ⟨rfl, rfl, rfl, by simp, fun k _ hk => heap_setCell_other w ⟨g, i, none⟩ k u (fun e => hk (by simp [e]))⟩

theorem ne_of {v : Value} {g : Nat} (h : ∀ x, v.ownBlock = some x → g < x) : v.ownBlock = none ∨ v.ownBlock ≠ some g := by
  cases hv : v.ownBlock with
  | none => exact .inl rfl
  | some x => exact .inr (fun e => by cases e; have := h _ hv; omega)

theorem ne_of' {v : Value} {row : Option Nat} (h : ∀ x, v.ownBlock = some x → some x ≠ row) : v.ownBlock = none ∨ v.ownBlock ≠ row := by
  cases hv : v.ownBlock with
  | none => exact .inl rfl
  | some x => exact .inr (h x hv)

theorem two_at {w : World} {B g cf : Nat} {ps : List (Int × Int)} {p q : Int × Int} (h : OwnP w B (.slice (some ⟨g, 0, none⟩) (ps.length + 2) cf) (ps ++ [p, q])) : (w.cell? ⟨g, ps.length * 2, none⟩ = some (.int .i64 p.1) ∧ w.cell? ⟨g, ps.length * 2 + 1, none⟩ = some (.int .i64 p.2)) ∧ w.cell? ⟨g, (ps.length + 1) * 2, none⟩ = some (.int .i64 q.1) ∧ w.cell? ⟨g, (ps.length + 1) * 2 + 1, none⟩ = some (.int .i64 q.2) := by
  obtain ⟨a, c, h1, _, _, h2, _⟩ := h.form
  injection h1 with h1
  subst h1
  obtain ⟨b, o, e, h3, h4⟩ := h2 ps.length p (by simp)
  obtain ⟨b', o', e', h5, h6⟩ := h2 (ps.length + 1) q (by simp)
  cases e
  cases e'
  rw [Nat.zero_add] at h3 h4 h5 h6
  exact ⟨⟨h3, h4⟩, h5, h6⟩

theorem pre {w : World} {a : Option Addr} {es fs : List (Int × Int)} (h : EdgesAt w a (es ++ fs)) : EdgesAt w a es := fun j p hj => h j p (by rw [List.getElem?_append_left (List.getElem?_eq_some_iff.1 hj).1]; exact hj)

theorem own_at {w : World} {B m c : Nat} {a : Option Addr} {l : List (Int × Int)} (h : OwnP w B (.slice a m c) l) : EdgesAt w a l := by
  obtain ⟨ao, cap, h1, _, _, h2, _⟩ := h.form
  injection h1 with h1
  subst h1
  exact h2

theorem own_two {w : World} {B m : Nat} {v : Value} {ps : List (Int × Int)} {p q : Int × Int} (hm : ps.length = m) (h : w.ownsRow B 34 2 v (m + 2) (flatE ps ++ [.int .i64 p.1, .int .i64 p.2, .int .i64 q.1, .int .i64 q.2])) : OwnP w B v (ps ++ [p, q]) := by
  subst hm
  unfold OwnP
  have e : flatE (ps ++ [p, q]) = flatE ps ++ [.int .i64 p.1, .int .i64 p.2, .int .i64 q.1, .int .i64 q.2] := by simp [flatE]
  rw [e, List.length_append]
  exact h

set_option maxRecDepth 100000 in
set_option maxHeartbeats 16000000 in
theorem walk (n : Int) (ao : Option Addr) (cap : Nat) (ps : List (Int × Int)) (m : Int) (bo : Option Addr) (cb : Nat) (es : List (Int × Int)) (w : World) (_ : (Lit.int .i64 n).wf = true) (hq : PairsIn w ao ps.length cap ps) (hlen : ps.length * 16 ≤ 140737488351232)
    (_ : -9223372036854775808 ≤ m ∧ m ≤ 9223372036854775807) (hr : PairsIn w bo es.length cb es) (hle : es.length * 16 ≤ 140737488351232) (ht : Tab w) :
    Calls Tryd.prog 4 #[.int .i64 n, .slice ao ps.length cap, .agg #[.int .i64 m, .slice bo es.length cb]] w fun e w' => e = .returned (.bool true) ∧ Below w.heap.size w w' := by
  obtain ⟨i0, hi, hz0, hz1, hz2⟩ := info_parts Tryd.infoTwo
  have HQ := Nu.hid hq
  have HR := Nu.hid hr
  have HTAB := Nu.hid ht
  clear hq hr ht
  have hbw0 : Below w.heap.size w (w.alloc (.cells #[.int .i64 m, .slice bo es.length cb] 24)) := (Below.refl _ _).alloc (Nat.le_refl _) _
  have HB0 := Nu.hid hbw0
  clear hbw0
  have HG0 := Nu.hid (heap_alloc_new w (.cells #[.int .i64 m, .slice bo es.length cb] 24))
  have hs0 := lt_of_block HG0.out
  go_enter Tryd.func4, Tryd.ntmps4
  go_wp2_with (go_at_call 5; refine (wakes_any _ (HTAB.out.below HB0.out)).mono ?_; rintro e w1 ⟨rfl, hb⟩; refine Hid.out ?_)
  refine Nu.hid ?_
  have HG1 := Nu.hid ((hb.block _ hs0).trans HG0.out)
  have hs1 := lt_of_block HG1.out
  have HB1 := Nu.hid (HB0.out.trans (hb.mono HB0.out.size))
  clear hb
  go_wp2_with (go_at_call 15; refine (copied_any ao cap ps _ (HQ.out.hat.later HB1.out) HQ.out.hnil (by omega)).mono ?_; refine Hid.out ?_)
  refine Nu.hid ?_
  rintro e w2 ⟨g2, c2, rfl, hown, hb⟩
  have HG2 := Nu.hid ((hb.block _ hs1).trans HG1.out)
  have hs2 := lt_of_block HG2.out
  have HB2 := Nu.hid (HB1.out.trans (hb.mono HB1.out.size))
  have hsb2 : w.heap.size ≤ w2.heap.size := HB2.out.size
  have HO2 := Nu.hid (hown.lower (A := w.heap.size + 1) (by omega))
  clear hb hown
  go_wp2_with (at_builtin; refine wpList_append_lies _ rfl _ _ 32 rfl (w.heap.size + 1) 34 i0 (.agg #[.int .i64 0, .int .i64 0]) 2 16 Tryd.underlying32 hi hz0 hz1 hz2 rfl (by decide) _ _ _ rfl (World.ownsRow.alloc HO2.out _) ⟨w2.heap.size, 0, none⟩ 2 2 [.int .i64 (-5), .int .i64 (-6), .int .i64 (-7), .int .i64 (-8)] rfl rfl (World.news_of_block (cs := #[.int .i64 (-5), .int .i64 (-6), .int .i64 (-7), .int .i64 (-8)]) (t := 34) (fr := (0, 0)) (heap_alloc_new w2 _)) (by simp [Value.oneCell']) (by decide) (by unfold maxLen; omega) (by omega) (by simp; omega) (w2.heap.size + 1) (by simp) ?_; refine Hid.out ?_)
  refine Nu.hid ?_
  intro gf cf w3 hrow3 hg3 hat3 hlt3
  have HO3 := Nu.hid (own_two (p := (-5, -6)) (q := (-7, -8)) rfl hrow3)
  have HG3 := Nu.hid ((hg3.block _ (by simp; omega) (fun h => HO2.out.far (by omega) h.symm)).trans ((Below.heap_alloc _ _ _ hs2).trans HG2.out))
  have HB3 := Nu.hid ((HB2.out.alloc hsb2 (.cells #[.int .i64 (-5), .int .i64 (-6), .int .i64 (-7), .int .i64 (-8)] 34)).grown hg3 (by simp; omega) (fun j hj => by have := (World.ownsRow.lt HO2.out j hj).1; omega))
  have hgf : w.heap.size + 1 ≤ gf := (World.ownsRow.lt hrow3 gf (by simp [Value.ownBlock])).1
  have hs3 := lt_of_block HG3.out
  have hcf : ps.length + 2 ≤ cf := by
    obtain ⟨_, c', h1, h2, _⟩ := HO3.out.form
    injection h1 with _ _ h1
    subst h1
    simpa using h2
  clear hrow3 hg3 hat3
  have hmk : ∀ (g c : Nat) (W : World), EdgesAt W (some ⟨g, 0, none⟩) ps → Calls Tryd.prog 10 #[.int .i64 n, .slice (some ⟨g, 0, none⟩) ps.length c] W (MakeP (Si.mk n ps) W) := fun g c W h => make_any n (some ⟨g, 0, none⟩) c ps W h (by omega)
  have hrm : ∀ (W : World), EdgesAt W ao ps → Calls Tryd.prog 16 #[.int .i64 n, .slice ao ps.length cap] W (RMakeN (Si.mk n ps) W) := fun W h => rmake_new n ao cap ps W h (by omega)
  have hfew := mk_few n ps
  generalize Si.mk n ps = r at hmk hrm hfew
  obtain ⟨rn, rl, re⟩ := r
  unfold MakeP at hmk
  unfold RMakeN at hrm
  dsimp only at hmk hrm hfew
  have HMK := Nu.hid hmk
  have HRM := Nu.hid hrm
  clear hmk hrm
  have q1 : ((ps.length : Nat) : Int) ≤ (cf : Int) := by omega
  have q2 : (0 : Int) ≤ (ps.length : Int) := by omega
  go_wp2_with (go_at_call 10; refine (HMK.out _ _ _ (pre (own_at HO3.out))).mono ?_; rintro e w4 ⟨v4, rfl, hown4, hb⟩; obtain ⟨a4, c4, rfl, _, _, _, _⟩ := hown4.form; refine Hid.out ?_)
  refine Nu.hid ?_
  have HX4 := Nu.hid (fun x hx => World.ownsRow.lt hown4 x hx)
  have hm4 : w3.heap.size ≤ w4.heap.size := hb.size
  have HG5 := Nu.hid (kept1 (.cells #[.int .i64 rn, .slice a4 rl.length c4] 24) ((hb.block _ hs3).trans HG3.out))
  have HA5 := Nu.hid (heap_alloc_new w4 (.cells #[.int .i64 rn, .slice a4 rl.length c4] 24))
  have HO5 := Nu.hid ((HO3.out.below hb (Nat.le_refl _)).alloc (.cells #[.int .i64 rn, .slice a4 rl.length c4] 24))
  have HV5 := Nu.hid (hown4.alloc (.cells #[.int .i64 rn, .slice a4 rl.length c4] 24))
  have hb4 := HB3.out.trans (hb.mono HB3.out.size)
  have HB5 := Nu.hid (hb4.alloc hb4.size (.cells #[.int .i64 rn, .slice a4 rl.length c4] 24))
  have hs5 := lt_of_block HG5.out
  have ha5 := lt_of_block HA5.out
  clear hb hb4 hown4
  go_wp2_with (go_at_call 10; refine (HMK.out _ _ _ (pre (own_at HO5.out))).mono ?_; rintro e w6 ⟨v6, rfl, hown6, hb⟩; obtain ⟨a6, c6, rfl, _, _, _, _⟩ := hown6.form; refine Hid.out ?_)
  refine Nu.hid ?_
  have HX6 := Nu.hid (fun x hx => World.ownsRow.lt hown6 x hx)
  have hm6 : w4.heap.size + 1 ≤ w6.heap.size := by have := hb.size; simpa using this
  have HG7 := Nu.hid (kept1 (.cells #[.int .i64 rn, .slice a6 rl.length c6] 24) ((hb.block _ hs5).trans HG5.out))
  have HA7 := Nu.hid (kept1 (.cells #[.int .i64 rn, .slice a6 rl.length c6] 24) ((hb.block _ ha5).trans HA5.out))
  have HC7 := Nu.hid (heap_alloc_new w6 (.cells #[.int .i64 rn, .slice a6 rl.length c6] 24))
  have HO7 := Nu.hid ((HO5.out.below hb (Nat.le_refl _)).alloc (.cells #[.int .i64 rn, .slice a6 rl.length c6] 24))
  have HV7 := Nu.hid ((HV5.out.below hb (Nat.le_refl _)).alloc (.cells #[.int .i64 rn, .slice a6 rl.length c6] 24))
  have HU7 := Nu.hid (hown6.alloc (.cells #[.int .i64 rn, .slice a6 rl.length c6] 24))
  have hb6 := HB5.out.trans (hb.mono HB5.out.size)
  have HB7 := Nu.hid (hb6.alloc hb6.size (.cells #[.int .i64 rn, .slice a6 rl.length c6] 24))
  have hs7 := lt_of_block HG7.out
  have ha7 := lt_of_block HA7.out
  have hc7 := lt_of_block HC7.out
  clear hb hb6 hown6
  go_wp2_with (go_at_call 16; refine (HRM.out _ (HQ.out.hat.later HB7.out)).mono ?_; rintro e w8 ⟨ra, rc, rfl, hea8, hb, hnew⟩; refine Hid.out ?_)
  refine Nu.hid ?_
  have HN8 : Hid (∀ x, ra = some x → w6.heap.size + 1 ≤ x.block) := fun x hx => by have := hnew x hx; simpa using this
  have hm8 : w6.heap.size + 1 ≤ w8.heap.size := by have := hb.size; simpa using this
  have hbox : Below w8.heap.size w8 (w8.alloc (.cells #[.int .i64 rn, .slice ra rl.length rc] 24)) := (Below.refl _ _).alloc (Nat.le_refl _) _
  have HG9 := Nu.hid (kept1 (.cells #[.int .i64 rn, .slice ra rl.length rc] 24) ((hb.block _ hs7).trans HG7.out))
  have HA9 := Nu.hid (kept1 (.cells #[.int .i64 rn, .slice ra rl.length rc] 24) ((hb.block _ ha7).trans HA7.out))
  have HC9 := Nu.hid (kept1 (.cells #[.int .i64 rn, .slice ra rl.length rc] 24) ((hb.block _ hc7).trans HC7.out))
  have HD9 := Nu.hid (heap_alloc_new w8 (.cells #[.int .i64 rn, .slice ra rl.length rc] 24))
  have HO9 := Nu.hid ((HO7.out.below hb (Nat.le_refl _)).alloc (.cells #[.int .i64 rn, .slice ra rl.length rc] 24))
  have HV9 := Nu.hid ((HV7.out.below hb (Nat.le_refl _)).alloc (.cells #[.int .i64 rn, .slice ra rl.length rc] 24))
  have HU9 := Nu.hid ((HU7.out.below hb (Nat.le_refl _)).alloc (.cells #[.int .i64 rn, .slice ra rl.length rc] 24))
  have HE9 := Nu.hid (hea8.later hbox)
  have hb8 := HB7.out.trans (hb.mono HB7.out.size)
  have HB9 := Nu.hid (hb8.alloc hb8.size (.cells #[.int .i64 rn, .slice ra rl.length rc] 24))
  have hs9 := lt_of_block HG9.out
  have ha9 := lt_of_block HA9.out
  have hc9 := lt_of_block HC9.out
  have hd9 := lt_of_block HD9.out
  clear hb hb8 hnew hea8 hbox
  have HS9 : Hid (St w.heap.size w4.heap.size w6.heap.size w8.heap.size (w4.heap.size + 1) (.cells #[.int .i64 m, .slice bo es.length cb] 24 (0, 0)) (.cells #[.int .i64 rn, .slice a4 rl.length c4] 24 (0, 0)) (.cells #[.int .i64 rn, .slice a6 rl.length c6] 24 (0, 0)) (.cells #[.int .i64 rn, .slice ra rl.length rc] 24 (0, 0)) (.slice a6 rl.length c6) ra rl (w8.alloc (.cells #[.int .i64 rn, .slice ra rl.length rc] 24))) :=
    ⟨HG9.out, HA9.out, HC9.out, HD9.out, by have := HU9.out; simpa using this, HE9.out⟩
  obtain ⟨x0, x1, -⟩ := pair_cells HA9.out
  obtain ⟨y0, y1, -⟩ := pair_cells HC9.out
  have heq : ∀ (a : Option Addr) (c : Nat) (W : World), EdgesAt W a rl → EdgesAt W ra rl → Calls Tryd.prog 11 #[.agg #[.int .i64 rn, .slice a rl.length c], .agg #[.int .i64 rn, .slice ra rl.length rc]] W fun e w' => e = .returned (.bool true) ∧ Below W.heap.size W w' := fun a c W h h' => by
    have := equal_any rn rn a ra c rc rl rl W h h' (by omega)
    rw [Si.equal_yes rfl rfl] at this
    exact this
  have HEQ := Nu.hid heq
  have j0 : (re != re) = false := by simp
  clear heq HG9 HA9 HC9 HD9 HU9 HE9 HG7 HA7 HC7 HO7 HV7 HU7 HG5 HA5 HO5 HV5 HG3 HO2 HG2 HG1 HG0
  go_wp2_with (go_at_call 11; refine (HEQ.out _ _ _ (owne_at HV9.out) HS9.out.e).mono ?_; rintro e w10 ⟨rfl, hb⟩; refine Hid.out ?_)
  refine Nu.hid ?_
  have HS10 := Nu.hid (HS9.out.later hb)
  have HO10 := Nu.hid (HO9.out.below hb (Nat.le_refl _))
  have HV10 := Nu.hid (HV9.out.below hb (Nat.le_refl _))
  have HB10 := Nu.hid (HB9.out.trans (hb.mono HB9.out.size))
  clear x0 x1 y0 y1 hb
  obtain ⟨x0, x1, -⟩ := pair_cells HS10.out.a
  obtain ⟨y0, y1, -⟩ := pair_cells HS10.out.c
  obtain ⟨z0, z1, -⟩ := pair_cells HS10.out.d
  have eqP := eqTwo
  have t1 : ((-5 : Int) == -5 && (-6 : Int) == -6) = true := rfl
  have t2 : ((-7 : Int) == -7 && (-8 : Int) == -8) = true := rfl
  have i5 : ((ps.length : Nat) : Int) < ((ps.length : Nat) : Int) + 2 := by omega
  have i6 : ((ps.length : Nat) : Int) + 1 < ((ps.length : Nat) : Int) + 2 := by omega
  go_wp2_with (go_at_call 11; refine (HEQ.out _ _ _ (owne_at HS10.out.u) HS10.out.e).mono ?_; rintro e w11 ⟨rfl, hb⟩; have HT11 := Nu.hid hb; obtain ⟨⟨s0, s1⟩, s2, s3⟩ := two_at (HO10.out.below hb (Nat.le_refl _)); clear hb)
  have HS11 := Nu.hid (HS10.out.later HT11.out)
  have HO11 := Nu.hid (HO10.out.below HT11.out (Nat.le_refl _))
  have HV11 := Nu.hid (HV10.out.below HT11.out (Nat.le_refl _))
  have HB11 := Nu.hid (HB10.out.trans (HT11.out.mono HB10.out.size))
  have hgl : gf < w3.heap.size := (World.ownsRow.lt HO3.out gf (by simp [Value.ownBlock])).2
  clear x0 x1 y0 y1 z0 z1 s0 s1 s2 s3 t1 t2 i5 i6 HT11 HS10 HO10 HV10 HS9 HO9 HV9
  go_loopw [15] (fun c wr => ∃ (k : Nat) (fs : List (Int × Int)), k ≤ ps.length ∧ c = .int .i64 k ∧ fs.length = ps.length + 2 ∧ (∀ j, k ≤ j → j < ps.length → fs[j]? = ps[j]?) ∧ OwnP wr (w.heap.size + 1) (.slice (some ⟨gf, 0, none⟩) (ps.length + 2) cf) fs ∧ w11.grownBy wr (some gf)) (fun c _ => ps.length - (intOf c).toNat)
  case atStart => exact ⟨0, _, Nat.zero_le _, rfl, by simp, fun j _ hj => List.getElem?_append_left hj, HO11.out, World.grownBy.refl _ _⟩
  case round =>
    obtain ⟨k, fs, hk, rfl, hfl, hsm, hrow, hg⟩ := hrel
    have HB12 := Nu.hid (HB11.out.grown hg HB11.out.size (fun x hx => by cases hx; omega))
    have HGR := Nu.hid hg
    have HFL := Nu.hid hfl
    have HSM := Nu.hid hsm
    have HROW := Nu.hid hrow
    by_cases hlt : k < ps.length
    · have hlti : (k : Int) < (ps.length : Int) := by omega
      have hlt2 : (k : Int) < ((ps.length : Nat) : Int) + 2 := by omega
      have hk0 : (0 : Int) ≤ (k : Int) := by omega
      obtain ⟨p, hp⟩ : ∃ p, ps[k]? = some p := ⟨_, List.getElem?_eq_getElem hlt⟩
      have hfp : fs[k]? = some p := (hsm k (Nat.le_refl _) hlt).trans hp
      obtain ⟨g, o', cap', hv, her⟩ := hrow.row (by omega)
      rw [hfl] at hv her
      cases hv
      obtain ⟨e1, e2⟩ := her.at hfp
      obtain ⟨b, o, rfl, c0, c1⟩ := (HQ.out.hat.later HB12.out) k p hp
      have hbl : b < wr.heap.size := block_lt_of_cell c0
      have t3 : (p.1 == p.1 && p.2 == p.2) = true := by simp
      simp only [Nat.zero_add] at e1 e2
      have HER := Nu.hid her
      clear hrow hg hfl hsm her hp hfp
      go_wp2_with fail
      go_big_region
      clear e1 e2 c0 c1
      obtain ⟨R2, ⟨u1, e1⟩, ⟨u2, e2⟩, f1, f2⟩ := HER.out.drew.pair (j := k) (by rw [HFL.out]; omega) (0, 0)
      have hgg := ((HGR.out.trans ⟨rfl, rfl, rfl, Nat.le_refl _, fun _ _ _ => rfl⟩ : w11.grownBy wr.drew (some gf)).trans (set_grown _ gf (0 + k * 2) (.int .i64 0))).trans (set_grown _ gf (0 + k * 2 + 1) (.int .i64 0))
      have HR2 := Nu.hid (R2.own (by rw [List.length_set]; exact HFL.out))
      have HG2 := Nu.hid hgg
      dsimp only at e2 f2 HR2
      simp only [Nat.zero_add] at e1 e2 f1 f2 HR2 HG2
      clear R2 hgg eqP
      generalize wr.drew = W1 at *
      go_wp2
      go_roundw
      case rel =>
        refine ⟨k + 1, _, by omega, by go_num, by rw [List.length_set]; exact HFL.out, fun j hj hj' => ?_, HR2.out, HG2.out⟩
        rw [List.getElem?_set, if_neg (by omega)]
        exact HSM.out j (by omega) hj'
      case measure => simp [intOf]; omega
    · have hd : ¬ ((k : Int) < (ps.length : Int)) := by omega
      clear hrow hg hfl hsm eqP
      obtain ⟨fs', hfs'⟩ : ∃ fs', fs.take ps.length = fs' := ⟨_, rfl⟩
      have hfl' : fs'.length = ps.length := by rw [← hfs', List.length_take, HFL.out]; omega
      have cut : ∀ W, OwnP W (w.heap.size + 1) (.slice (some ⟨gf, 0, none⟩) (ps.length + 2) cf) fs → EdgesAt W (some ⟨gf, 0, none⟩) fs' := fun W h j p hj => by
        refine own_at h j p ?_
        rw [← hfs', List.getElem?_take] at hj
        split at hj
        · exact hj
        · cases hj
      have HCUT := Nu.hid cut
      have HS12 := Nu.hid (HS11.out.grown HGR.out (by simp; omega) (by simp; omega) (by simp; omega) (by simp; omega) (ne_of fun x hx => by have := (World.ownsRow.lt HS11.out.u x hx).1; omega) (fun x hx => by have := HN8.out x hx; simp; omega))
      have HV12 := Nu.hid (show OwnE wr w3.heap.size (.slice a4 rl.length c4) rl from World.ownsRow.kept HV11.out HGR.out (ne_of fun x hx => by have := (HX4.out x hx).1; omega))
      obtain ⟨x0, x1, -⟩ := pair_cells HS12.out.a
      have hsz12 : w3.heap.size ≤ wr.heap.size := by
        have h1 := HGR.out.size
        have h2 := lt_of_block HS11.out.d
        omega
      clear cut hfs'
      go_wp2_with (go_at_call 17; refine (spoil_any w3.heap.size _ rl _ HV12.out hsz12 hfew).mono ?_; rintro e w13 ⟨rfl, hg⟩; refine Hid.out ?_)
      refine Nu.hid ?_
      have far : ∀ b, (b < w3.heap.size ∨ w4.heap.size ≤ b) → some b ≠ (Value.slice a4 rl.length c4).ownBlock := fun b hb h => by have := HX4.out b h.symm; omega
      have HS13 := Nu.hid (HS12.out.grown hg (far _ (by omega)) (far _ (by omega)) (far _ (by omega)) (far _ (by omega)) (ne_of' fun x hx => far x (by have := (World.ownsRow.lt HS12.out.u x hx).1; omega)) (fun x hx => far _ (by have := HN8.out x hx; omega)))
      have HO13 := Nu.hid (show OwnP w13 (w.heap.size + 1) (.slice (some ⟨gf, 0, none⟩) (ps.length + 2) cf) fs from World.ownsRow.kept HROW.out hg (.inr (fun h => far gf (by omega) (by rw [← h]; rfl))))
      have HB13 := Nu.hid (HB12.out.grown hg HB12.out.size (fun x hx => by have := (HX4.out x hx).1; omega))
      clear x0 x1 hg far
      obtain ⟨y0, y1, -⟩ := pair_cells HS13.out.c
      obtain ⟨z0, z1, -⟩ := pair_cells HS13.out.d
      go_wp2_with (go_at_call 11; refine (HEQ.out _ _ _ (owne_at HS13.out.u) HS13.out.e).mono ?_; rintro e w14 ⟨rfl, hb⟩; refine Hid.out ?_)
      refine Nu.hid ?_
      have HS14 := Nu.hid (HS13.out.later hb)
      have HO14 := Nu.hid (HO13.out.below hb (Nat.le_refl _))
      have HB14 := Nu.hid (HB13.out.trans (hb.mono HB13.out.size))
      clear y0 y1 z0 z1 hb
      have hmk : ∀ (W : World), EdgesAt W (some ⟨gf, 0, none⟩) fs' → Calls Tryd.prog 10 #[.int .i64 n, .slice (some ⟨gf, 0, none⟩) ps.length cf] W (MakeP (Si.mk n fs') W) := fun W h => by
        have := make_any n (some ⟨gf, 0, none⟩) cf fs' W h (by omega)
        rw [hfl'] at this
        exact this
      have hrm : ∀ (W : World), EdgesAt W (some ⟨gf, 0, none⟩) fs' → Calls Tryd.prog 16 #[.int .i64 n, .slice (some ⟨gf, 0, none⟩) ps.length cf] W (RMakeN (Si.mk n fs') W) := fun W h => by
        have := rmake_new n (some ⟨gf, 0, none⟩) cf fs' W h (by omega)
        rw [hfl'] at this
        exact this
      have hfew' := mk_few n fs'
      generalize Si.mk n fs' = r at hmk hrm hfew'
      obtain ⟨qn, ql, qe⟩ := r
      unfold MakeP at hmk
      unfold RMakeN at hrm
      dsimp only at hmk hrm hfew'
      have HMK' := Nu.hid hmk
      have HRM' := Nu.hid hrm
      clear hmk hrm
      go_wp2_with (go_at_call 10; refine (HMK'.out _ (HCUT.out _ HO14.out)).mono ?_; rintro e w15 ⟨v15, rfl, hown15, hb⟩; obtain ⟨a15, c15, rfl, _, _, hea15, _⟩ := hown15.form; refine Hid.out ?_)
      refine Nu.hid ?_
      have hbx : Below w15.heap.size w15 (w15.alloc (.cells #[.int .i64 qn, .slice a15 ql.length c15] 24)) := (Below.refl _ _).alloc (Nat.le_refl _) _
      have HS16 := Nu.hid ((HS14.out.later hb).later hbx)
      have HO16 := Nu.hid ((HO14.out.below hb (Nat.le_refl _)).alloc (.cells #[.int .i64 qn, .slice a15 ql.length c15] 24))
      have hb15 := HB14.out.trans (hb.mono HB14.out.size)
      have HB16 := Nu.hid (hb15.alloc hb15.size (.cells #[.int .i64 qn, .slice a15 ql.length c15] 24))
      have HE16 := Nu.hid (hea15.later hbx)
      have HP16 := Nu.hid (heap_alloc_new w15 (.cells #[.int .i64 qn, .slice a15 ql.length c15] 24))
      have hp16 := lt_of_block HP16.out
      clear hb hb15 hbx hea15 hown15
      go_wp2_with (go_at_call 16; refine (HRM'.out _ (HCUT.out _ HO16.out)).mono ?_; rintro e w17 ⟨qa, qc, rfl, hea17, hb, _⟩; refine Hid.out ?_)
      refine Nu.hid ?_
      have hbx : Below w17.heap.size w17 (w17.alloc (.cells #[.int .i64 qn, .slice qa ql.length qc] 24)) := (Below.refl _ _).alloc (Nat.le_refl _) _
      have HS18 := Nu.hid ((HS16.out.later hb).later hbx)
      have hb17 := HB16.out.trans (hb.mono HB16.out.size)
      have HB18 := Nu.hid (hb17.alloc hb17.size (.cells #[.int .i64 qn, .slice qa ql.length qc] 24))
      have HE18 := Nu.hid ((HE16.out.later hb).later hbx)
      have HF18 := Nu.hid (hea17.later hbx)
      have HP18 := Nu.hid (kept1 (.cells #[.int .i64 qn, .slice qa ql.length qc] 24) ((hb.block _ hp16).trans HP16.out))
      obtain ⟨x0, x1, -⟩ := pair_cells HP18.out
      clear hb hb17 hbx hea17
      have heq2 := equal_any qn qn a15 qa c15 qc ql ql _ HE18.out HF18.out (by omega)
      rw [Si.equal_yes rfl rfl] at heq2
      unfold graphVal at heq2
      have HEQ2 := Nu.hid heq2
      clear heq2
      go_wp2_with (go_at_call 11; refine HEQ2.out.mono ?_; rintro e w19 ⟨rfl, hb⟩; refine Hid.out ?_)
      refine Nu.hid ?_
      have HS19 := Nu.hid (HS18.out.later hb)
      have HB19 := Nu.hid (HB18.out.trans (hb.mono HB18.out.size))
      clear x0 x1 hb
      obtain ⟨y0, y1, -⟩ := pair_cells HS19.out.c
      obtain ⟨z0, z1, -⟩ := pair_cells HS19.out.d
      go_wp2_with (go_at_call 11; refine (HEQ.out _ _ _ (owne_at HS19.out.u) HS19.out.e).mono ?_; rintro e w20 ⟨rfl, hb⟩; refine Hid.out ?_)
      refine Nu.hid ?_
      have HS20 := Nu.hid (HS19.out.later hb)
      have HB20 := Nu.hid (HB19.out.trans (hb.mono HB19.out.size))
      clear y0 y1 z0 z1 hb
      obtain ⟨x0, x1, -⟩ := pair_cells HS20.out.g
      have hdo := degOwn.degreesOwn_any m bo cb es w20 (HR.out.hat.later HB20.out) hle (HTAB.out.below HB20.out)
      unfold graphVal at hdo
      have HDO := Nu.hid hdo
      clear hdo
      go_wp2_with (go_at_call 18; refine HDO.out.mono ?_; rintro e w21 ⟨rfl, hb⟩)
      go_ret
      exact ⟨by simp, HB20.out.trans (hb.mono HB20.out.size)⟩

set_option maxRecDepth 100000 in
/-- What the walk gives, for every argument and every world that holds the tables. -/
theorem contract (H : Type) (enc : TypeId × Value → H) (W : World) (base : Nat) (args : Array Value) (ds gs : List (DataW H)) (before : List MemPlace)
    (hval : ∀ (j : Nat) t v, Tryd.f4.params[j]? = some t → args[j]? = some v → Value.okWide Tryd.prog W .any base t v)
    (hW : DataW.Whole enc Tryd.prog Tryd.f4.params.toList Rows.simpleOwnSpec.vars false W args.toList ds gs before)
    (hsz : (DataW.weightsEach Tryd.prog (Tryd.f4.params.toList ++ (OpenSpec.ofChange Rows.simpleOwnSpec).bare.plain.varTypes Tryd.prog) (ds ++ gs)).all (· ≤ reachBytes) = true)
    (hL : laidMet Tryd.prog listed W) :
    Calls Tryd.prog 4 args W fun e W' => ∃ v, e = .returned v ∧ Rows.simpleOwnSpec.post enc Tryd.prog Tryd.f4 false true false false W args v W' := by
  have hW' := hW
  obtain ⟨p, q, hA0, hV, rfl, hfz, hnd⟩ := hW
  have hA : DataW.TrodAll enc Tryd.prog W 0 (fun _ => true) true Tryd.f4.params.toList args.toList ds p := hA0
  rw [Tryd.params4] at hA hval hsz
  obtain ⟨v0, vs0, d0, ds0, p0, q0, hargs, rfl, rfl, h0, r0⟩ := trodAll_cons hA
  obtain ⟨v1, vs1, d1, ds1, p1, q1, rfl, rfl, rfl, h1, r1⟩ := trodAll_cons r0
  obtain ⟨v2, vs2, d2, ds2, p2, q2, rfl, rfl, rfl, h2, r2⟩ := trodAll_cons r1
  obtain ⟨rfl, rfl, rfl⟩ := trodAll_nil r2
  obtain rfl : args = #[v0, v1, v2] := by cases args; simp_all
  obtain ⟨rfl, rfl⟩ := trodVars_none hV
  obtain ⟨a0, rfl, rfl, rfl, w0⟩ := open_int Tryd.underlying3 (hval 0 3 v0 rfl rfl) h0
  obtain ⟨a1, len1, cap1, rfl⟩ := okWide_slice Tryd.underlying32 (hval 1 32 v1 rfl rfl)
  have k1 := h1
  have lt1 : ∀ x ∈ p1, x.block < W.heap.size := by obtain ⟨m, hm⟩ := k1; exact DataW.trod_lt m _ _ _ hm
  obtain ⟨q1, w1, u1⟩ := pairs_of_trod (j := 1) h1 hsz rfl rfl
  have l1 := w1.hlen
  subst l1
  have k2 := h2
  have lt2 : ∀ x ∈ p2, x.block < W.heap.size := by obtain ⟨m, hm⟩ := k2; exact DataW.trod_lt m _ _ _ hm
  obtain ⟨n2, a2, cap2, q2, rfl, x2, w2, u2⟩ := graph_of_trod (j := 2) (hval 2 24 v2 rfl rfl) h2 hsz rfl rfl
  clear hA0
  refine (walk a0 a1 cap1 q1 n2 a2 cap2 q2 W w0 w1 u1 x2 w2 u2 (table hL)).mono fun e W' ⟨he, bel⟩ => ?_
  subst he
  exact ⟨_, rfl, _, _, _, [], _, [], hW', trodAll_mk1 (shut_bool Tryd.underlying4 _), (trodAll_cons_mk (shut_int Tryd.underlying3 w0) (trodAll_cons_mk (Below.trod laidOut (by kernel_rfl) (of_decide_eq_true (by kernel_rfl)) k1 bel lt1) (trodAll_cons_mk (Below.trod laidOut (by kernel_rfl) (of_decide_eq_true (by kernel_rfl)) k2 bel lt2) trodAll_mk0))), rfl, bel.frame _, fun h => by cases h⟩

theorem laid_met (os : Os) : laidMet Tryd.prog Rows.simpleOwnRow.laid ((laidWorld os).forCall (fun _ _ => 0) ⟨#[], #[.int .i64 0, .slice none 0 0, .agg #[.int .i64 0, .slice none 0 0]], []⟩).memory :=
  laidMet_of_run' 100 (by kernel_rfl) (by kernel_rfl)
theorem reads (os : Os) {H : Type} (enc : TypeId × Value → H) : ∃ places, DataW.whole enc Tryd.prog ((laidWorld os).forCall (fun _ _ => 0) ⟨#[], #[.int .i64 0, .slice none 0 0, .agg #[.int .i64 0, .slice none 0 0]], []⟩).memory Tryd.f4.params.toList Rows.simpleOwnSpec.vars false (#[.int .i64 0, .slice none 0 0, .agg #[.int .i64 0, .slice none 0 0]] : Array Value).toList 8 = some ([.lit (.int .i64 0), .nil, .agg [.lit (.int .i64 0), .nil]], [], places) :=
  ⟨[], by kernel_rfl⟩

set_option maxRecDepth 100000 in
theorem lifted (os : Os) (started : os.Started) (H : Type) (enc : TypeId × Value → H) (F : Stop.Interp) :
    ReturnsInHanded {} Tryd.checked os 4 .any ((OpenSpec.ofChange Rows.simpleOwnSpec).preRow enc Tryd.prog Tryd.f4 Rows.simpleOwnRow.domain false Rows.simpleOwnRow.laid) (((OpenSpec.ofChange Rows.simpleOwnSpec).at F).post enc Tryd.prog Tryd.f4 false true false false) := by
  obtain ⟨places, hx⟩ := reads os enc
  refine returnsInHanded_of_row (C := Tryd.checked) (s := (OpenSpec.ofChange Rows.simpleOwnSpec)) own started (by kernel_rfl) Tryd.func4
    (witness_row_at (enc := enc) (C := Tryd.checked) false (laidWorld os) #[.int .i64 0, .slice none 0 0, .agg #[.int .i64 0, .slice none 0 0]] rfl (by kernel_rfl) (by kernel_rfl) (by kernel_rfl)
      (OpenSpec.preRow_of_cond 8 hx (by kernel_rfl) (fun k hk => by cases hk) (by kernel_rfl) (laid_met os))) ?_
  intro W base args ds gs before hval hW _ hcond hsz hL _ _
  exact contract H enc W base args ds gs before hval hW hsz hL

theorem said : Rows.SimpleOwnSaid :=
  OpenClaim.holds_of_cond 4 Tryd.f4 rfl rfl rfl rfl rfl rfl rfl ⟨rfl, rfl, rfl, rfl, rfl⟩ rfl rfl rfl rfl rfl (by kernel_rfl) Tryd.func4 (by kernel_rfl)
    (of_decide_eq_true (by kernel_rfl)) (by unfold Func.isWrapper; first | (rw [if_pos (by decide +kernel)]; kernel_rfl) | (rw [if_neg (by decide +kernel)]; exact ⟨rfl, rfl⟩))
    (fun os started H enc _ F => by rw [OpenClaim.pre_eq_preRow]; exact lifted os started H enc F)

theorem plain (f : FuncId) (fn : Func) (hf : Tryd.pinned.checked.prog.funcNamed "tangram/tangramlaw03.SimpleOwn" = some f) (hfn : Tryd.pinned.checked.prog.funcs[f]? = some fn) :
    true = Tryd.pinned.checked.prog.looks [] ∧ ∀ (j : Nat) t, fn.params[j]? = some t → Tryd.pinned.checked.prog.wantsStandIn t = false := by
  obtain rfl : f = 4 := Option.some.inj ((show Tryd.prog.funcNamed "tangram/tangramlaw03.SimpleOwn" = some 4 by kernel_rfl).symm.trans hf) |>.symm
  obtain rfl : fn = Tryd.f4 := (Option.some.inj (Tryd.func4.symm.trans hfn)).symm
  refine ⟨by kernel_rfl, fun j t ht => ?_⟩
  rw [Tryd.params4] at ht
  obtain hx : t = 3 ∨ t = 32 ∨ t = 24 := by simpa using Array.mem_of_getElem? ht
  rcases hx with rfl | rfl | rfl
  · exact (show Tryd.prog.wantsStandIn 3 = false by kernel_rfl)
  · exact (show Tryd.prog.wantsStandIn 32 = false by kernel_rfl)
  · exact (show Tryd.prog.wantsStandIn 24 = false by kernel_rfl)

theorem card : Rows.SimpleOwnCardSaid :=
  Claim7.holds_tied_plain_at .later [] _ _ _ _ said (fun _ h => by cases h) (by kernel_rfl) (fun _ h => by cases h) simpleOwn_row_tie rfl ⟨rfl, rfl⟩ (by kernel_rfl) rfl plain (by kernel_rfl)

end lawSOwn

theorem simpleOwn_holds : Rows.SimpleOwnCardSaid := lawSOwn.card

end Go.Proofs.YtmgjfakdjponoabDoor
