/-
  degreesOwn: Degrees asked twice, its answers written over, the graph's copy written over: for every graph.
-/
import Derived.Test.YtmgjfakdjponoabDoorSiOwnI
import Derived.Test.YtmgjfakdjponoabDoorSiSpoil
import Derived.Test.YtmgjfakdjponoabDoorSiREq
import Derived.Test.YtmgjfakdjponoabDoorSiFind
import Derived.Test.YtmgjfakdjponoabDoorSiText
import Derived.Test.YtmgjfakdjponoabDoorSiRValid
import Derived.BigRegion
import Derived.BigQuiet
import Derived.Deep.RegionHeld3
namespace Go.Proofs.YtmgjfakdjponoabDoor
open Go.RowKit

namespace degOwn

theorem pre {w : World} {a : Option Addr} {es fs : List (Int × Int)} (h : EdgesAt w a (es ++ fs)) : EdgesAt w a es := fun j p hj => h j p (by rw [List.getElem?_append_left (List.getElem?_eq_some_iff.1 hj).1]; exact hj)

theorem full_at {w : World} {B g cf : Nat} {es : List (Int × Int)} {p : Int × Int} (h : OwnE w B (.slice (some ⟨g, 0, none⟩) (es.length + 1) cf) (es ++ [p])) : EdgesAt w (some ⟨g, 0, none⟩) es := by
  obtain ⟨a, c, h1, _, _, h2, _⟩ := h.form
  injection h1 with h1
  subst h1
  exact pre h2

theorem ints_at {w : World} {B m c : Nat} {a : Option Addr} {l : List Int} (h : OwnI w B (.slice a m c) l) : IntsAt w a l := by
  obtain ⟨ao, cap, h1, h2, _⟩ := h.form
  injection h1 with h1
  subst h1
  exact h2

theorem last_at {w : World} {B g cf : Nat} {es : List (Int × Int)} {p : Int × Int} (h : OwnE w B (.slice (some ⟨g, 0, none⟩) (es.length + 1) cf) (es ++ [p])) : w.cell? ⟨g, es.length * 2, none⟩ = some (.int .i64 p.1) ∧ w.cell? ⟨g, es.length * 2 + 1, none⟩ = some (.int .i64 p.2) := by
  obtain ⟨a, c, h1, _, _, h2, _⟩ := h.form
  injection h1 with h1
  subst h1
  obtain ⟨b, o, e, h3, h4⟩ := h2 es.length p (by simp)
  cases e
  rw [Nat.zero_add] at h3 h4
  exact ⟨h3, h4⟩

theorem field_edges (x0 : Value) (a : Option Addr) (m c : Nat) (W : World) : (Instr.field 24 (.agg #[x0, .slice a m c]) 1).run Tryd.prog W = .ok (.slice a m c) W := by kernel_rfl

set_option maxRecDepth 100000 in
set_option maxHeartbeats 8000000 in
theorem degreesOwn_any (n : Int) (ao : Option Addr) (ca : Nat) (es : List (Int × Int)) (w : World) (he : EdgesAt w ao es) (hl : es.length * 16 ≤ 140737488351232) (ht : Tab w) :
    Calls Tryd.prog 18 #[graphVal n ao es.length ca] w fun e w' => e = .returned (.bool true) ∧ Below w.heap.size w w' := by
  obtain ⟨i0, hi, hz0, hz1, hz2⟩ := info_parts Tryd.infoEdge
  obtain ⟨i1, hj, hy0, hy1, hy2⟩ := info_parts Tryd.infoNum
  have HE := Nu.hid he
  have HTAB := Nu.hid ht
  clear he ht
  have hbw0 : Below w.heap.size w (w.alloc (.cells #[.int .i64 n, .slice ao es.length ca] 24)) := (Below.refl _ _).alloc (Nat.le_refl _) _
  have HB0 := Nu.hid hbw0
  clear hbw0
  have HG0 := Nu.hid (heap_alloc_new w (.cells #[.int .i64 n, .slice ao es.length ca] 24))
  have hs0 := lt_of_block HG0.out
  unfold graphVal
  go_enter Tryd.func18, Tryd.ntmps18
  go_wp2_with (go_at_call 7; refine (rcopy_any n ao ca es _ (HE.out.later HB0.out) (by omega)).mono ?_; rintro e w2 ⟨v2, rfl, hown, hb⟩; obtain ⟨a2, c2, rfl, _, _, _, _⟩ := hown.form; refine Hid.out ?_)
  refine Nu.hid ?_
  have hG2 := (hb.block _ hs0).trans HG0.out
  have hs2 := lt_of_block hG2
  have HB2 := Nu.hid (HB0.out.trans (hb.mono HB0.out.size))
  have HG2 := Nu.hid hG2
  have hsz1 : (w.alloc (.cells #[.int .i64 n, .slice ao es.length ca] 24)).heap.size = w.heap.size + 1 := by simp
  rw [hsz1] at hown
  have HO2 := Nu.hid hown
  have hfe := field_edges
  have hsb2 : w.heap.size ≤ w2.heap.size := HB2.out.size
  clear hb hG2 hown hsz1
  go_wp2_with (at_builtin; refine wpList_append_lies _ rfl _ _ 22 rfl (w.heap.size + 1) 52 i0 (.agg #[.int .i64 0, .int .i64 0]) 2 16 Tryd.underlying22 hi hz0 hz1 hz2 rfl (by decide) _ _ _ rfl (World.ownsRow.alloc HO2.out _) ⟨w2.heap.size, 0, none⟩ 1 1 [.int .i64 (-1), .int .i64 (-2)] rfl rfl (new_two_e _ _ rfl _ _ _) (by simp [Value.oneCell']) (by decide) (by unfold maxLen; omega) (by omega) (by simp; omega) (w2.heap.size + 1) (by simp) ?_; refine Hid.out ?_)
  refine Nu.hid ?_
  intro gf cf w3 hrow3 hg3 hat3 hlt3
  have hO3 : OwnE w3 (w.heap.size + 1) (.slice (some ⟨gf, 0, none⟩) (es.length + 1) cf) (es ++ [((-1 : Int), (-2 : Int))]) := owne_snoc rfl hrow3
  have hG3 := (hg3.block _ (by simp; omega) (fun h => HO2.out.far (by omega) h.symm)).trans ((Below.heap_alloc _ _ _ hs2).trans HG2.out)
  have HB3 := Nu.hid ((HB2.out.alloc hsb2 (.cells #[.int .i64 (-1), .int .i64 (-2)] 52)).grown hg3 (by simp; omega) (fun j hj => by have := (World.ownsRow.lt HO2.out j hj).1; omega))
  have hgf : w.heap.size + 1 ≤ gf := (World.ownsRow.lt hrow3 gf (by simp [Value.ownBlock])).1
  have hs3 := lt_of_block hG3
  obtain ⟨x0, x1, -⟩ := pair_cells hG3
  have hcf : es.length + 1 ≤ cf := by
    obtain ⟨_, c', h1, h2, _⟩ := hO3.form
    injection h1 with _ _ h1
    subst h1
    simpa using h2
  have HO3 := Nu.hid hO3
  have HG3 := Nu.hid hG3
  clear hrow3 hg3 hat3 hO3 hG3
  have q1 : ((es.length : Nat) : Int) ≤ (cf : Int) := by omega
  have q2 : (0 : Int) ≤ (es.length : Int) := by omega
  go_wp2_with fail
  go_big_region
  have hG4 : ((w3.alloc (.cells #[.int .i64 n, .slice (some ⟨gf, 0, none⟩) es.length cf] 24)).drew).heap[w.heap.size]? = some (.cells #[.int .i64 n, .slice ao es.length ca] 24 (0, 0)) := (Below.heap_alloc _ _ _ hs3).trans HG3.out
  have hH4 : ((w3.alloc (.cells #[.int .i64 n, .slice (some ⟨gf, 0, none⟩) es.length cf] 24)).drew).heap[w3.heap.size]? = some (.cells #[.int .i64 n, .slice (some ⟨gf, 0, none⟩) es.length cf] 24 (0, 0)) := heap_alloc_new w3 _
  have HB4 := Nu.hid ((HB3.out.alloc HB3.out.size (.cells #[.int .i64 n, .slice (some ⟨gf, 0, none⟩) es.length cf] 24)).drew)
  have HO4 := Nu.hid (show OwnE ((w3.alloc (.cells #[.int .i64 n, .slice (some ⟨gf, 0, none⟩) es.length cf] 24)).drew) (w.heap.size + 1) (.slice (some ⟨gf, 0, none⟩) (es.length + 1) cf) (es ++ [((-1 : Int), (-2 : Int))]) from World.ownsRow.drew (World.ownsRow.alloc HO3.out _))
  have hgn : gf ≠ w3.heap.size := by omega
  generalize (w3.alloc (.cells #[.int .i64 n, .slice (some ⟨gf, 0, none⟩) es.length cf] 24)).drew = w4 at *
  clear x0 x1
  obtain ⟨x0, x1, -⟩ := pair_cells hG4
  obtain ⟨y0, y1, -⟩ := pair_cells hH4
  have hs4 := lt_of_block hG4
  have ht4 := lt_of_block hH4
  have HG4 := Nu.hid hG4
  have HH4 := Nu.hid hH4
  clear hG4 hH4
  have hdg : ∀ (a : Option Addr) (c : Nat) (W : World), EdgesAt W a es → Calls Tryd.prog 32 #[.agg #[.int .i64 n, .slice a es.length c]] W (DegO (Si.degr n es) W) := fun a c W h => (degrees_any n a c es W h (by omega)).mono fun _ _ h => degO_of h
  have hrd : ∀ (W : World), EdgesAt W ao es → Calls Tryd.prog 33 #[.agg #[.int .i64 n, .slice ao es.length ca]] W (DegO (Si.degr n es) W) := fun W h => (rdegrees_any n ao ca es W h (by omega)).mono fun _ _ h => degO_of h
  have HDG := Nu.hid hdg
  have HRD := Nu.hid hrd
  clear hdg hrd
  go_wp2_with (go_at_call 32; refine (HDG.out _ _ _ (full_at HO4.out)).mono ?_; rintro e w5 ⟨va, rfl, hia, hda, hb⟩; refine Hid.out ?_)
  refine Nu.hid ?_
  have hG5 := (hb.block _ hs4).trans HG4.out
  have hH5 := (hb.block _ ht4).trans HH4.out
  have hm5 : w4.heap.size ≤ w5.heap.size := hb.size
  clear x0 x1 y0 y1
  obtain ⟨x0, x1, -⟩ := pair_cells hG5
  obtain ⟨y0, y1, -⟩ := pair_cells hH5
  have hs5 := lt_of_block hG5
  have ht5 := lt_of_block hH5
  have HB5 := Nu.hid (HB4.out.trans (hb.mono HB4.out.size))
  have HO5 := Nu.hid (HO4.out.below hb (Nat.le_refl _))
  have HG5 := Nu.hid hG5
  have HH5 := Nu.hid hH5
  have HA5 := Nu.hid hia
  clear hia
  clear hb hG5 hH5
  go_wp2_with (go_at_call 32; refine (HDG.out _ _ _ (full_at HO5.out)).mono ?_; rintro e w6 ⟨vb, rfl, hib, _, hb⟩; refine Hid.out ?_)
  refine Nu.hid ?_
  have hG6 := (hb.block _ hs5).trans HG5.out
  have hH6 := (hb.block _ ht5).trans HH5.out
  have hm6 : w5.heap.size ≤ w6.heap.size := hb.size
  clear x0 x1 y0 y1
  obtain ⟨x0, x1, -⟩ := pair_cells hG6
  obtain ⟨y0, y1, -⟩ := pair_cells hH6
  have hs6 := lt_of_block hG6
  have ht6 := lt_of_block hH6
  have HB6 := Nu.hid (HB5.out.trans (hb.mono HB5.out.size))
  have HO6 := Nu.hid (HO5.out.below hb (Nat.le_refl _))
  have HG6 := Nu.hid hG6
  have HH6 := Nu.hid hH6
  have HA6 := Nu.hid (HA5.out.below hb)
  have HI6 := Nu.hid hib
  clear hib
  clear hb hG6 hH6
  go_wp2_with (go_at_call 8; refine (text_any n _ _ es _ (full_at HO6.out) (by omega) (HTAB.out.below HB6.out)).mono ?_; rintro e w7 ⟨rfl, hb⟩; refine Hid.out ?_)
  refine Nu.hid ?_
  have hG7 := (hb.block _ hs6).trans HG6.out
  have hH7 := (hb.block _ ht6).trans HH6.out
  have hm7 : w6.heap.size ≤ w7.heap.size := hb.size
  clear x0 x1 y0 y1
  obtain ⟨x0, x1, -⟩ := pair_cells hG7
  obtain ⟨y0, y1, -⟩ := pair_cells hH7
  have hs7 := lt_of_block hG7
  have ht7 := lt_of_block hH7
  have HB7 := Nu.hid (HB6.out.trans (hb.mono HB6.out.size))
  have HO7 := Nu.hid (HO6.out.below hb (Nat.le_refl _))
  have HG7 := Nu.hid hG7
  have HH7 := Nu.hid hH7
  have HA7 := Nu.hid (HA6.out.below hb)
  have HI7 := Nu.hid (HI6.out.below hb)
  clear hb hG7 hH7
  go_wp2_with (go_at_call 20; refine (find_any n _ _ es (0, 1) _ (full_at HO7.out) (by omega)).mono ?_; rintro e w8 ⟨⟨r8, _, rfl⟩, hb⟩; refine Hid.out ?_)
  refine Nu.hid ?_
  have hG8 := (hb.block _ hs7).trans HG7.out
  have hH8 := (hb.block _ ht7).trans HH7.out
  have hm8 : w7.heap.size ≤ w8.heap.size := hb.size
  clear x0 x1 y0 y1
  obtain ⟨x0, x1, -⟩ := pair_cells hG8
  obtain ⟨y0, y1, -⟩ := pair_cells hH8
  have hs8 := lt_of_block hG8
  have ht8 := lt_of_block hH8
  have HB8 := Nu.hid (HB7.out.trans (hb.mono HB7.out.size))
  have HO8 := Nu.hid (HO7.out.below hb (Nat.le_refl _))
  have HG8 := Nu.hid hG8
  have HH8 := Nu.hid hH8
  have HA8 := Nu.hid (HA7.out.below hb)
  have HI8 := Nu.hid (HI7.out.below hb)
  clear hb hG8 hH8
  go_wp2_with (go_at_call 33; refine (HRD.out _ (HE.out.later HB8.out)).mono ?_; rintro e w9 ⟨vw, rfl, hiw, _, hb⟩; refine Hid.out ?_)
  refine Nu.hid ?_
  have hG9 := (hb.block _ hs8).trans HG8.out
  have hH9 := (hb.block _ ht8).trans HH8.out
  have hm9 : w8.heap.size ≤ w9.heap.size := hb.size
  clear x0 x1 y0 y1
  obtain ⟨x0, x1, -⟩ := pair_cells hG9
  obtain ⟨y0, y1, -⟩ := pair_cells hH9
  have hs9 := lt_of_block hG9
  have ht9 := lt_of_block hH9
  have HB9 := Nu.hid (HB8.out.trans (hb.mono HB8.out.size))
  have HO9 := Nu.hid (HO8.out.below hb (Nat.le_refl _))
  have HG9 := Nu.hid hG9
  have HH9 := Nu.hid hH9
  have HA9 := Nu.hid (HA8.out.below hb)
  have HI9 := Nu.hid (HI8.out.below hb)
  have HW9 := Nu.hid hiw
  clear hiw
  clear hb hG9 hH9
  have hxa : ∀ x, va.ownBlock = some x → w4.heap.size ≤ x ∧ x < w5.heap.size := fun x hx => World.ownsRow.lt HA5.out x hx
  have hxb : ∀ x, vb.ownBlock = some x → w5.heap.size ≤ x := fun x hx => (World.ownsRow.lt HI6.out x hx).1
  have hxw : ∀ x, vw.ownBlock = some x → w8.heap.size ≤ x := fun x hx => (World.ownsRow.lt HW9.out x hx).1
  have hgl : gf < w4.heap.size := (World.ownsRow.lt HO4.out gf (by simp [Value.ownBlock])).2
  have h49 : w4.heap.size ≤ w9.heap.size := by omega
  have h4w : w.heap.size < w4.heap.size := hs4
  clear HDG HRD
  generalize Si.degr n es = R at *
  obtain ⟨L, rc⟩ := R
  dsimp only at hda HA9 HI9 HW9
  obtain ⟨aa, cA, rfl, _, _⟩ := HA9.out.form
  obtain ⟨ab, cB, rfl, _, _⟩ := HI9.out.form
  obtain ⟨aw, cW, rfl, _, _⟩ := HW9.out.form
  have HXA := Nu.hid hxa
  have HXB := Nu.hid hxb
  have HXW := Nu.hid hxw
  clear hxa hxb hxw x0 x1 y0 y1 hfe
  go_wp2_with fail
  go_loopw [50] (fun c wr => ∃ (k : Nat) (fs : List Int), k ≤ L.length ∧ c = .int .i64 k ∧ fs.length = L.length ∧ OwnI wr w4.heap.size (.slice aa L.length cA) fs ∧ w9.grownBy wr (Value.slice aa L.length cA).ownBlock) (fun c _ => L.length - (intOf c).toNat)
  case atStart => exact ⟨0, L, Nat.zero_le _, rfl, rfl, HA9.out, World.grownBy.refl _ _⟩
  case round =>
    obtain ⟨k, fs, hk, rfl, hfl, hrow, hg⟩ := hrel
    have HROW := Nu.hid hrow
    have HG := Nu.hid hg
    have HFL := Nu.hid hfl
    by_cases hlt : k < L.length
    · have hlti : (k : Int) < (L.length : Int) := by omega
      have hk0 : (0 : Int) ≤ (k : Int) := by omega
      obtain ⟨g, o, cap, hv, her⟩ := hrow.row (by omega)
      rw [hfl] at hv her
      cases hv
      obtain ⟨R2, hg2, ⟨z1, e1⟩, f1⟩ := her.put (j := k) (by omega) (-9)
      have HR2 := Nu.hid (R2.own (by rw [List.length_set]; exact hfl))
      have HG2' := Nu.hid (hg.trans (by simpa [Value.ownBlock] using hg2))
      clear R2 hg2 her hrow hg hfl
      go_wp2
      go_roundw
      case rel => exact ⟨k + 1, _, by omega, by go_num, by rw [List.length_set]; exact HFL.out, HR2.out, HG2'.out⟩
      case measure => simp [intOf]; omega
    · have hd : ¬ ((k : Int) < (L.length : Int)) := by omega
      clear hrow hg hfl
      go_wp2
      go_loopw [5, 12] (fun u c wt => ∃ (j : Nat) (gs : List Int), j ≤ 40 ∧ c = .int .i64 j ∧ gs.length = L.length + j ∧ OwnI wt w4.heap.size u gs ∧ w9.grownBy wt (Value.slice aa L.length cA).ownBlock ∧ (∀ x, u.ownBlock = some x → w9.heap.size ≤ x ∨ (Value.slice aa L.length cA).ownBlock = some x)) (fun _ c _ => 40 - (intOf c).toNat)
      case atStart => exact ⟨0, fs, Nat.zero_le _, rfl, by rw [HFL.out]; rfl, HROW.out, HG.out, fun x hx => .inr hx⟩
      case round =>
        obtain ⟨j, gs, hj', rfl, hgsl, hrow, hg, hat⟩ := hrel
        have HROW2 := Nu.hid hrow
        have HGR := Nu.hid hg
        have HGL := Nu.hid hgsl
        have HAT := Nu.hid hat
        have hsz : w9.heap.size ≤ wr.heap.size := hg.size
        clear hrow hg hgsl hat
        by_cases hjt : j < 40
        · have hjti : (j : Int) < 40 := by omega
          go_wp2_with (at_builtin; refine wpList_append_own_at _ rfl _ _ 25 rfl w4.heap.size 3 i1 (.int .i64 0) 1 8 Tryd.underlying25 hj hy0 hy1 hy2 rfl (by decide) _ _ _ rfl (World.ownsRow.alloc HROW2.out _) ⟨wr.heap.size, 0, none⟩ 1 1 [.int .i64 (-8)] rfl rfl (World.news_of_block (cs := #[.int .i64 (-8)]) (t := 3) (fr := (0, 0)) (heap_alloc_new wr _)) (by simp [Value.oneCell']) (by rw [HGL.out]; unfold maxLen; omega) (by rw [HGL.out]; omega) (by simp; omega) ?_; refine Hid.out ?_)
          refine Nu.hid ?_
          intro v' w3' hrow3 hg3 _ hat3
          have HR3 := Nu.hid (owni_snoc (l := gs) (x := -8) rfl hrow3)
          have HG3' := Nu.hid ((HGR.out.trans (World.grownBy_alloc _ _ _)).andThen hg3 (fun x hx => HAT.out x hx))
          have HA3 : Hid (∀ x, v'.ownBlock = some x → w9.heap.size ≤ x ∨ (Value.slice aa L.length cA).ownBlock = some x) := by
            intro x hx
            rcases hat3 with h | h
            · rw [h] at hx
              exact HAT.out x hx
            · rw [h] at hx
              cases hx
              exact .inl (by omega)
          clear hrow3 hg3 hat3
          go_wp2
          go_roundw
          case rel => exact ⟨j + 1, _, by omega, by go_num, by rw [List.length_append, HGL.out]; rfl, HR3.out, HG3'.out, HA3.out⟩
          case measure => simp [intOf]; omega
        · have hd2 : ¬ ((j : Int) < 40) := by omega
          have far : ∀ b, b < w4.heap.size → some b ≠ (Value.slice aa L.length cA).ownBlock := fun b hb h => by have := (HXA.out b h.symm).1; omega
          have hG10 := (HGR.out.block _ (by omega) (far _ (by omega))).trans HG9.out
          have hH10 := (HGR.out.block _ (by omega) (far _ (by omega))).trans HH9.out
          have HO10 := Nu.hid (show OwnE wr _ _ _ from World.ownsRow.kept HO9.out HGR.out (.inr (fun h => far gf (by omega) (by rw [← h]; rfl))))
          have nb : (Value.slice ab L.length cB).ownBlock = none ∨ (Value.slice ab L.length cB).ownBlock ≠ (Value.slice aa L.length cA).ownBlock := by
            cases h : (Value.slice ab L.length cB).ownBlock with
            | none => exact .inl rfl
            | some x => exact .inr (fun h' => by have := (HXA.out x h'.symm).2; have := HXB.out x h; omega)
          have nw : (Value.slice aw L.length cW).ownBlock = none ∨ (Value.slice aw L.length cW).ownBlock ≠ (Value.slice aa L.length cA).ownBlock := by
            cases h : (Value.slice aw L.length cW).ownBlock with
            | none => exact .inl rfl
            | some x => exact .inr (fun h' => by have := (HXA.out x h'.symm).2; have := HXW.out x h; omega)
          have HI10 := Nu.hid (HI9.out.kept HGR.out nb)
          have HW10 := Nu.hid (HW9.out.kept HGR.out nw)
          have HB10 := Nu.hid (HB9.out.grown HGR.out HB9.out.size (fun x hx => by have := (HXA.out x hx).1; omega))
          obtain ⟨x0, x1, -⟩ := pair_cells hG10
          obtain ⟨y0, y1, -⟩ := pair_cells hH10
          have hs10 := lt_of_block hG10
          have ht10 := lt_of_block hH10
          have HG10 := Nu.hid hG10
          have HH10 := Nu.hid hH10
          clear hG10 hH10 nb nw far
          have hsi : ∀ W, Below wr.heap.size wr W → Calls Tryd.prog 34 #[.slice ab L.length cB, .slice aw L.length cW] W fun e w' => e = .returned (.bool true) ∧ Below W.heap.size W w' := fun W hb => by
            have := sameints_any ab aw cB cW L.length L.length L L W rfl rfl (ints_at (HI10.out.below hb)) (ints_at (HW10.out.below hb)) (by omega)
            rw [decide_eq_true rfl] at this
            exact this
          have HSI := Nu.hid hsi
          clear hsi
          go_wp2_with (go_at_call 34; refine (HSI.out _ (Below.refl _ _)).mono ?_; rintro e w11 ⟨rfl, hb⟩; refine Hid.out ?_)
          refine Nu.hid ?_
          have HT11 := Nu.hid hb
          have hG11 := (hb.block _ hs10).trans HG10.out
          have hH11 := (hb.block _ ht10).trans HH10.out
          have hm11 : wr.heap.size ≤ w11.heap.size := hb.size
          clear x0 x1 y0 y1
          obtain ⟨x0, x1, -⟩ := pair_cells hG11
          obtain ⟨y0, y1, -⟩ := pair_cells hH11
          have hs11 := lt_of_block hG11
          have ht11 := lt_of_block hH11
          have HB11 := Nu.hid (HB10.out.trans (hb.mono HB10.out.size))
          have HO11 := Nu.hid (HO10.out.below hb (Nat.le_refl _))
          have HG11 := Nu.hid hG11
          have HH11 := Nu.hid hH11
          have heq := equal_any n n (some ⟨gf, 0, none⟩) ao cf ca es es w11 (full_at HO11.out) (HE.out.later HB11.out) (by omega)
          rw [Si.equal_yes rfl rfl] at heq
          unfold graphVal at heq
          have HEQ := Nu.hid heq
          clear hb hG11 hH11 heq
          have e9 : ((es.length : Nat) : Int) < ((es.length : Nat) : Int) + 1 := by omega
          have eqE := eqEdge
          have t1 : ((-1 : Int) == -1 && (-2 : Int) == -2) = true := rfl
          go_wp2_with (go_at_call 11; refine HEQ.out.mono ?_; rintro e w12 ⟨rfl, hb⟩; have HB12 := Nu.hid hb; obtain ⟨c0, c1⟩ := last_at (HO11.out.below hb (Nat.le_refl _)); have y0' := (hb.cell (p := ⟨w.heap.size, 0, none⟩) hs11).trans x0; have y1' := (hb.cell (p := ⟨w.heap.size, 1, none⟩) hs11).trans x1; clear hb)
          have hm12 : w11.heap.size ≤ w12.heap.size := HB12.out.size
          have hH12 := (HB12.out.block _ ht11).trans HH11.out
          have HO12 := Nu.hid (HO11.out.below HB12.out (Nat.le_refl _))
          have HI12 := Nu.hid ((HI10.out.below HT11.out).below HB12.out)
          have HW12 := Nu.hid ((HW10.out.below HT11.out).below HB12.out)
          have HBz := Nu.hid (HB11.out.trans (HB12.out.mono HB11.out.size))
          have ht12 := lt_of_block hH12
          have hmw : w9.heap.size ≤ wr.heap.size := hsz
          have HH12 := Nu.hid hH12
          clear x0 x1 y0 y1 y0' y1' c0 c1 hH12 eqE t1
          go_loopw [86] (fun c wt => ∃ (k : Nat) (fs : List (Int × Int)), k ≤ es.length + 1 ∧ c = .int .i64 k ∧ fs.length = es.length + 1 ∧ OwnE wt (w.heap.size + 1) (.slice (some ⟨gf, 0, none⟩) (es.length + 1) cf) fs ∧ w12.grownBy wt (some gf)) (fun c _ => es.length + 1 - (intOf c).toNat)
          case atStart => exact ⟨0, _, Nat.zero_le _, rfl, by simp, HO12.out, World.grownBy.refl _ _⟩
          case round =>
            obtain ⟨k3, fs3, hk3, rfl, hfl3, hrow3, hg3⟩ := hrel
            have HROW3 := Nu.hid hrow3
            have HGR3 := Nu.hid hg3
            have HFL3 := Nu.hid hfl3
            by_cases hlt3 : k3 < es.length + 1
            · have hlti : (k3 : Int) < ((es.length : Nat) : Int) + 1 := by omega
              have hk0 : (0 : Int) ≤ (k3 : Int) := by omega
              obtain ⟨g, o, cap, hv, her⟩ := hrow3.row (by omega)
              rw [hfl3] at hv her
              cases hv
              obtain ⟨R2, hg2, ⟨z1, e1⟩, ⟨z2, e2⟩, f1, f2⟩ := her.pair (j := k3) (by omega) (5, 3)
              dsimp only at R2 hg2 e2 f2
              have HR2 := Nu.hid (R2.own (by rw [List.length_set]; exact hfl3))
              have HG2' := Nu.hid (hg3.trans hg2)
              simp only [Nat.zero_add] at e1 e2 f1 f2 HR2 HG2'
              clear R2 hg2 her hrow3 hg3 hfl3
              go_wp2
              go_roundw
              case rel => exact ⟨k3 + 1, _, by omega, by go_num, by rw [List.length_set]; exact HFL3.out, HR2.out, HG2'.out⟩
              case measure => simp [intOf]; omega
            · have hd3 : ¬ ((k3 : Int) < ((es.length : Nat) : Int) + 1) := by omega
              obtain ⟨fs', hfs'⟩ : ∃ fs', fs3.take es.length = fs' := ⟨_, rfl⟩
              have hfl' : fs'.length = es.length := by rw [← hfs', List.length_take, hfl3]; omega
              have hea : EdgesAt wr (some ⟨gf, 0, none⟩) fs' := by
                obtain ⟨a, c, h1, _, _, h2, _⟩ := hrow3.form
                injection h1 with h1
                subst h1
                intro j p hj
                refine h2 j p ?_
                rw [← hfs', List.getElem?_take] at hj
                split at hj
                · exact hj
                · cases hj
              have hms : w12.heap.size ≤ wr.heap.size := hg3.size
              have hH13 := (hg3.block _ ht12 (by simp; omega)).trans HH12.out
              have nbb : ∀ (a : Option Addr) (c : Nat), (∀ x, (Value.slice a L.length c).ownBlock = some x → w5.heap.size ≤ x) → (Value.slice a L.length c).ownBlock = none ∨ (Value.slice a L.length c).ownBlock ≠ some gf := fun a c hx => by
                cases h : (Value.slice a L.length c).ownBlock with
                | none => exact .inl rfl
                | some x => exact .inr (fun h' => by cases h'; have := hx _ h; omega)
              have HI13 := Nu.hid (HI12.out.kept hg3 (nbb ab cB (fun x hx => HXB.out x hx)))
              have HW13 := Nu.hid (HW12.out.kept hg3 (nbb aw cW (fun x hx => by have := HXW.out x hx; omega)))
              have HB13 := Nu.hid (HBz.out.grown hg3 HBz.out.size (fun x hx => by cases hx; omega))
              have ht13 := lt_of_block hH13
              obtain ⟨y0, y1, -⟩ := pair_cells hH13
              have hbr : Below wr.heap.size wr wr.drew := (Below.refl _ _).drew
              have hS : ∀ W, Below wr.heap.size wr W → (W.cell? ⟨w3.heap.size, 0, none⟩ = some (.int .i64 n) ∧ W.cell? ⟨w3.heap.size, 1, none⟩ = some (.slice (some ⟨gf, 0, none⟩) es.length cf) ∧ Below wr.heap.size wr W) := fun W h =>
                ⟨(h.cell (p := ⟨w3.heap.size, 0, none⟩) ht13).trans y0, (h.cell (p := ⟨w3.heap.size, 1, none⟩) ht13).trans y1, h⟩
              have HS := Nu.hid hS
              have hsi : ∀ W, Below wr.heap.size wr W → Calls Tryd.prog 34 #[.slice ab L.length cB, .slice aw L.length cW] W fun e w' => e = .returned (.bool true) ∧ Below W.heap.size W w' := fun W hb => by
                have := sameints_any ab aw cB cW L.length L.length L L W rfl rfl (ints_at (HI13.out.below hb)) (ints_at (HW13.out.below hb)) (by omega)
                rw [decide_eq_true rfl] at this
                exact this
              obtain ⟨V, hV⟩ : ∃ V, Si.valid n fs' = V := ⟨_, rfl⟩
              have hva : ∀ W, Below wr.heap.size wr W → Calls Tryd.prog 6 #[.agg #[.int .i64 n, .slice (some ⟨gf, 0, none⟩) es.length cf]] W fun e w' => e = .returned (.bool V) ∧ Below W.heap.size W w' := fun W hb => by
                have := valid_any n (some ⟨gf, 0, none⟩) cf fs' W (hea.later hb) (by omega)
                rw [hV, hfl'] at this
                exact this
              have hvr : ∀ W, Below wr.heap.size wr W → Calls Tryd.prog 28 #[.agg #[.int .i64 n, .slice (some ⟨gf, 0, none⟩) es.length cf]] W fun e w' => e = .returned (.bool V) ∧ Below W.heap.size W w' := fun W hb => by
                have := rvalid_any n (some ⟨gf, 0, none⟩) cf fs' W (hea.later hb) (by omega)
                rw [hV, hfl'] at this
                exact this
              have HSI' := Nu.hid hsi
              have HVA := Nu.hid hva
              have HVR := Nu.hid hvr
              have tV : (V == V) = true := by simp
              clear hS hsi hva hvr hV hea hfl' hfs' hrow3 hg3 hfl3 nbb hH13 HSI
              go_wp2_with fail
              go_region_held3 (fun W => W.cell? ⟨w3.heap.size, 0, none⟩ = some (.int .i64 n) ∧ W.cell? ⟨w3.heap.size, 1, none⟩ = some (.slice (some ⟨gf, 0, none⟩) es.length cf) ∧ Below wr.heap.size wr W)
                (exact HS.out _ (by first | assumption | exact hbr))
                ((first
                  | (go_at_call 34; refine (HSI'.out _ (by first | assumption | exact hbr)).mono ?_; rintro e W2 ⟨rfl, hbs⟩; have hbz : Below wr.heap.size wr W2 := Below.trans (by first | assumption | exact hbr) (hbs.mono (Below.size (by first | assumption | exact hbr))))
                  | (go_at_call 6; refine (HVA.out _ (by first | assumption | exact hbr)).mono ?_; rintro e W2 ⟨rfl, hbs⟩; have hbz : Below wr.heap.size wr W2 := Below.trans (by first | assumption | exact hbr) (hbs.mono (Below.size (by first | assumption | exact hbr))))
                  | (go_at_call 28; refine (HVR.out _ (by first | assumption | exact hbr)).mono ?_; rintro e W2 ⟨rfl, hbs⟩; have hbz : Below wr.heap.size wr W2 := Below.trans (by first | assumption | exact hbr) (hbs.mono (Below.size (by first | assumption | exact hbr))))))
              all_goals
                go_wp2
                go_ret
                exact ⟨by simp, HB13.out.trans (hbz.mono HB13.out.size)⟩

end degOwn
end Go.Proofs.YtmgjfakdjponoabDoor
