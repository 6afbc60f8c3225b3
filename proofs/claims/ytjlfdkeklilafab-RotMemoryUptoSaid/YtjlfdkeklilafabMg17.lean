import Derived.Test.YtjlfdkeklilafabMg05
import Derived.Test.YtjlfdkeklilafabMg16
import Derived.Test.YtjlfdkeklilafabMg07
import Derived.Test.YtjlfdkeklilafabMg09
import Derived.Test.YtjlfdkeklilafabMg12
/-
  Lists of vertices are read: the half-edges that they tell, or the first fault is given up with.
-/
namespace Go.Proofs.Ytjlfdkeklilafab
open Go.RowKit Go.Sort

/-- A reading comes to its end with the lists hs, or gives up with what is wrong first. -/
def VertsPost (v : Nat) (c : Int) (hs : List (List Int)) (w : World) (e : Ending) (w' : World) : Prop :=
  Below w.heap.size w w' ∧ ((c = 0 ∧ ∃ r rs, e = .returned r ∧ RowsZ w' w.heap.size r rs hs) ∨ (c ≠ 0 ∧ e = .panicked [{ v := rfaultV v c, recovered := false }]))

/-- What lies in memory while lists of vertices are read: the reader, the finder, the lists. -/
structure VS (W : World) (w : World) (B1 B2 p gd gs q gf ga gl N : Nat) (ao : Option Addr) (ca : Nat) (es : List (Int × Int)) (f : Nat → Bool) (F An D : List Int) (vs : List Value) (rs : List (List Int)) : Prop where
  rd : RdAt W w.heap.size p gd gs N ao ca es f
  fi : FiAt W B1 q gf ga gl N ao ca es F An D
  rw : RowsZ W B2 (.slice (some ⟨B2, 0, none⟩) N N) vs rs
  low : Below w.heap.size w W
  r1 : p < B1 ∧ gd < B1 ∧ gs < B1
  r2 : q < B2 ∧ gf < B2 ∧ ga < B2 ∧ gl < B2
  r3 : w.heap.size ≤ B1 ∧ B1 ≤ B2

section
variable {W W' w : World} {B1 B2 p gd gs q gf ga gl N : Nat} {ao : Option Addr} {ca : Nat} {es : List (Int × Int)} {f : Nat → Bool} {F An D : List Int} {vs : List Value} {rs : List (List Int)}
theorem VS.later (h : VS W w B1 B2 p gd gs q gf ga gl N ao ca es f F An D vs rs) (hb : Below W.heap.size W W') : VS W' w B1 B2 p gd gs q gf ga gl N ao ca es f F An D vs rs :=
  ⟨h.rd.later hb, h.fi.later hb, h.rw.later hb, h.low.trans (hb.mono h.low.size), h.r1, h.r2, h.r3⟩
theorem VS.in2 (h : VS W w B1 B2 p gd gs q gf ga gl N ao ca es f F An D vs rs) : B2 < W.heap.size := (World.ownsRow.lt h.rw.outer B2 rfl).2
/-- What is written from block B on, where all lists lie below B. -/
theorem VS.below {B : Nat} (h : VS W w B1 B2 p gd gs q gf ga gl N ao ca es f F An D vs rs) (hb : Below B W W') (hB : B2 < B) (hlow : ∀ (a : Nat) (y : Value) (b : Nat), vs[a]? = some y → y.ownBlock = some b → b < B) : VS W' w B1 B2 p gd gs q gf ga gl N ao ca es f F An D vs rs := by
  have h1 := h.r1
  have h2 := h.r2
  have h3 := h.r3
  have h4 := h.low.size
  refine ⟨h.rd.keep fun b hq => hb.block b (by omega), h.fi.keep fun b hq => hb.block b (by omega), ?_, h.low.trans (hb.mono (by omega)), h.r1, h.r2, h.r3⟩
  refine h.rw.kept fun b hq _ => ?_
  rcases hq with hq | ⟨u, x, hx, hxb⟩
  · obtain rfl : B2 = b := by simpa [Value.ownBlock] using hq
    exact hb.block _ hB
  · exact hb.block b (hlow u x b hx hxb)
/-- The reader has marked one. -/
theorem VS.marked {f' : Nat → Bool} (h : VS W w B1 B2 p gd gs q gf ga gl N ao ca es f F An D vs rs) (hw : Wrote (fun b => b = gs) W W') (hr : RdAt W' w.heap.size p gd gs N ao ca es f') : VS W' w B1 B2 p gd gs q gf ga gl N ao ca es f' F An D vs rs := by
  have h1 := h.r1
  have h2 := h.r2
  have h3 := h.r3
  have h4 := h.fi.lo
  have hb := hw.below h.low.size (B := w.heap.size) (fun k hk => by rw [hk]; exact h.rd.lo.2.2)
  have hl := h.in2
  refine ⟨hr, h.fi.keep fun b hq => hw.block b ?_ ?_, h.rw.kept fun b hq hb2 => hw.block b hb2 ?_, h.low.trans hb, h.r1, h.r2, h.r3⟩
  · omega
  · show ¬ b = gs
    omega
  · show ¬ b = gs
    rcases hq with hq | ⟨u, x, hx, hxb⟩
    · obtain rfl : B2 = b := by simpa [Value.ownBlock] using hq
      omega
    · obtain ⟨k, hk⟩ := h.rw.at hx
      have := (World.ownsRow.lt (h.rw.row u x k hx hk) b hxb).1
      omega
/-- The finder has been told a vertex. -/
theorem VS.told {D' : List Int} (h : VS W w B1 B2 p gd gs q gf ga gl N ao ca es f F An D vs rs) (hw : Wrote (fun b => b = gl) W W') (hf : FiAt W' B1 q gf ga gl N ao ca es F An D') : VS W' w B1 B2 p gd gs q gf ga gl N ao ca es f F An D' vs rs := by
  have h1 := h.r1
  have h2 := h.r2
  have h3 := h.r3
  have h4 := h.fi.lo
  have hb := hw.below h.low.size (B := w.heap.size) (fun k hk => by rw [hk]; omega)
  have hl := h.in2
  refine ⟨h.rd.keep fun b hq => hw.block b ?_ ?_, hf, h.rw.kept fun b hq hb2 => hw.block b hb2 ?_, h.low.trans hb, h.r1, h.r2, h.r3⟩
  · omega
  · show ¬ b = gl
    omega
  · show ¬ b = gl
    rcases hq with hq | ⟨u, x, hx, hxb⟩
    · obtain rfl : B2 = b := by simpa [Value.ownBlock] using hq
      omega
    · obtain ⟨k, hk⟩ := h.rw.at hx
      have := (World.ownsRow.lt (h.rw.row u x k hx hk) b hxb).1
      omega
end

theorem VertsPost.bad {n : Int} {es : List (Int × Int)} {hs : List (List Int)} {w w' : World} {v : Nat} {c : Int} (hb : Below w.heap.size w w') (h : Ro.check n es hs = (v, c)) (hc : c ≠ 0) : VertsPost (Ro.check n es hs).1 (Ro.check n es hs).2 hs w (.panicked [{ v := rfaultV v c, recovered := false }]) w' := by
  refine ⟨hb, .inr ?_⟩
  rw [h]
  exact ⟨hc, rfl⟩

set_option maxRecDepth 100000 in
set_option maxHeartbeats 16000000 in
theorem readVertices_any (n : Int) (ao : Option Addr) (ca : Nat) (es : List (Int × Int)) (xo : Option Addr) (xc : Nat) (ls : List (List Int)) (w : World) (he : EdgesAt w ao es) (hl : es.length ≤ 4611686018427387904) (hx : RwsAt w xo ls) :
    Calls Try.prog 23 #[graphVal n ao es.length ca, .slice xo ls.length xc] w (VertsPost (Ro.check n es (Ro.hls es 0 ls)).1 (Ro.check n es (Ro.hls es 0 ls)).2 (Ro.hls es 0 ls) w) := by
  obtain ⟨i0, hi, hz0, hz1, hz2⟩ := info_parts Try.infoRow
  obtain ⟨i1, hi1, hy0, hy1, hy2⟩ := info_parts Try.infoNum
  have hb0 : Below w.heap.size w (w.alloc (.cells #[.int .i64 n, .slice ao es.length ca] 24)) := (Below.refl _ _).alloc (Nat.le_refl _) _
  have HN := Nu.hid (newReader_any n ao ca es ls.length _ (he.later hb0) hl)
  have HB0 := Nu.hid hb0
  have HE := Nu.hid he
  have HX := Nu.hid hx
  have HHL := Nu.hid (Ro.hls_len es 0 ls)
  unfold graphVal at HN ⊢
  clear he hb0 hx
  go_enter Try.func23, Try.ntmps23
  go_wp2_with (go_at_call 34; refine HN.out.mono ?_; refine Hid.out ?_)
  refine Nu.hid ?_
  rintro e w1 ⟨hb1, hp⟩
  have HB1 := Nu.hid (HB0.out.trans (hb1.mono HB0.out.size))
  have hs1 := hb1.size
  rw [World.size_alloc] at hs1
  have hG1 : w1.heap[w.heap.size]? = some (.cells #[.int .i64 n, .slice ao es.length ca] 24 (0, 0)) := (hb1.block _ (by simp)).trans (heap_alloc_new w _)
  have HG1 := Nu.hid hG1
  clear hb1 hG1
  rcases hp with ⟨hv, rfl⟩ | ⟨hv, hk, rfl⟩ | ⟨hv, rfl, p, gd, gs, rfl, hr⟩
  · exact ⟨rfl, VertsPost.bad HB1.out (by simp [Ro.check, hv]) (by decide)⟩
  · exact ⟨rfl, VertsPost.bad HB1.out (by simp [Ro.check, hv, HHL.out, hk]) (by decide)⟩
  have hck : Ro.check (ls.length : Int) es (Ro.hls es 0 ls) = Ro.chk es 0 (Ro.hls es 0 ls) := by simp [Ro.check, hv, HHL.out]
  have hval := Si.valid_iff.1 hv
  have HCK := Nu.hid hck
  have HVAL := Nu.hid hval
  have hlb := hval.hi
  have hfew := hval.few
  have hrd : RdAt w1 w.heap.size p gd gs ls.length ao ca es (fun _ => false) := ⟨hr.blk, hr.deg, hr.std, ⟨by have := hr.lo.1; simp at this; omega, by have := hr.lo.2.1; simp at this; omega, by have := hr.lo.2.2; simp at this; omega⟩, hr.ne⟩
  have HR := Nu.hid hrd
  have hr1 : p < w1.heap.size ∧ gd < w1.heap.size ∧ gs < w1.heap.size := ⟨lt_of_block hrd.blk, hrd.deg.lt, hrd.std.lt⟩
  have HR1 := Nu.hid hr1
  have HNF := Nu.hid (newFinder_any ls.length ao ca es w1 (HE.out.later HB1.out) hval)
  obtain ⟨g0, g1, -⟩ := pair_cells HG1.out
  clear hr hv hck hval hrd hr1
  go_wp2_with (go_at_call 35; refine HNF.out.mono ?_; refine Hid.out ?_)
  refine Nu.hid ?_
  rintro e w2 ⟨q, gf, ga, gl, F, An, rfl, hfi, hFi, hb2⟩
  have HFI := Nu.hid hFi
  have hF2 := hfi
  have HB2 := Nu.hid (HB1.out.trans (hb2.mono HB1.out.size))
  have hr2 : q < w2.heap.size ∧ gf < w2.heap.size ∧ ga < w2.heap.size ∧ gl < w2.heap.size := ⟨lt_of_block hfi.blk, hfi.first.lt, hfi.another.lt, hfi.leading.lt⟩
  have HR2 := Nu.hid hr2
  have HRD2 := Nu.hid (HR.out.later hb2)
  have HFI2 := Nu.hid hfi
  have hs2 := hb2.size
  clear hfi hFi hb2 hF2 hr2 g0 g1 HR HNF HN
  go_wp2_with (at_make; refine wpList_make_full _ rfl _ _ 26 rfl w2.heap.size 39 i0 (.slice none 0 0) 1 Try.underlying26 hi hz0 hz1 _ _ _ _ ls.length rfl rfl rfl rfl (by rw [hz2]; omega) (by unfold maxLen; omega) (Nat.le_refl _) ?_; refine Hid.out ?_)
  refine Nu.hid ?_
  intro w3 hrow hg3
  have hmade := RowsZ.made hrow
  have hb3 : Below w2.heap.size w2 w3 := (Below.refl _ _).grown hg3 (Nat.le_refl _) (fun j hj => by cases hj)
  have HVS : Hid (VS w3 w w1.heap.size w2.heap.size p gd gs q gf ga gl ls.length ao ca es (fun _ => false) F An (List.replicate ls.length (-1)) (List.replicate ls.length (.slice none 0 0)) (Ro.fill id (Ro.hls es 0 ls) 0)) := by
    refine ⟨HRD2.out.later hb3, HFI2.out.later hb3, ?_, HB2.out.trans (hb3.mono HB2.out.size), HR1.out, HR2.out, ⟨by omega, hs2⟩⟩
    rw [Ro.fill_zero, HHL.out]
    exact hmade
  have HLD0 := Nu.hid (Ro.Ld.start ls.length es)
  clear hrow hg3 hb3 hmade HRD2 HFI2 HB2 HR1 HR2 HG1
  go_wp2
  go_loopw [25] (fun c wr => ∃ (k : Nat) (f : Nat → Bool) (DD D : List Int) (vs : List Value), k ≤ ls.length ∧ c = .int .i64 (k : Int) ∧ Ro.chk es 0 (Ro.hls es 0 ls) = Ro.chk es k ((Ro.hls es 0 ls).drop k) ∧ Ro.Sd es f k DD [] ∧ Ro.Ld ls.length es k (2 * es.length) D ∧ VS wr w w1.heap.size w2.heap.size p gd gs q gf ga gl ls.length ao ca es f F An D vs (Ro.fill id (Ro.hls es 0 ls) k)) (fun c _ => ls.length - (intOf c).toNat)
  case atStart => exact ⟨0, _, [], _, _, Nat.zero_le _, rfl, rfl, Ro.Sd.start es, HLD0.out, HVS.out⟩
  case round =>
    clear HVS HLD0
    obtain ⟨k, f, DD, D, vs, hk, rfl, hch, hsd, hld, hvs⟩ := hrel
    obtain ⟨W0, rfl⟩ : ∃ W0, W0 = wr := ⟨_, rfl⟩
    have HCH := Nu.hid hch
    have HSD := Nu.hid hsd
    have HLD := Nu.hid hld
    have HVS := Nu.hid hvs
    clear hch hsd hld hvs
    by_cases hlt : k < ls.length
    · have hlti : (k : Int) < (ls.length : Int) := by omega
      have hk0 : (0 : Int) ≤ (k : Int) := by omega
      obtain ⟨l, hlk⟩ : ∃ l, ls[k]? = some l := ⟨_, List.getElem?_eq_getElem hlt⟩
      obtain ⟨b, o, A, C, rfl, hc, hL, hln, -⟩ := HX.out k l hlk
      have hbl : b < w.heap.size := block_lt_of_cell hc
      have hcr := (HVS.out.low.cell (p := ⟨b, o + k, none⟩) hbl).trans hc
      have HL := Nu.hid hL
      have hLk := Ro.hls_at (es := es) (k := 0) hlk
      rw [Nat.zero_add] at hLk
      have HLK := Nu.hid hLk
      obtain ⟨p1, hp1⟩ : ∃ p1, l.length = p1 := ⟨_, rfl⟩
      rw [hp1] at hcr hln
      have HP1 := Nu.hid hp1
      obtain ⟨c0, c1, c2, c3, -⟩ := four_cells HVS.out.rd.blk
      have hdg : (Si.degs (ls.length : Int) es)[k]? = some (Ro.deg es k : Int) := by
        have := Cs.degs_out HVAL.out es.length (Nat.le_refl _) k hlt
        rw [List.take_length] at this
        exact this
      have cdg := HVS.out.rd.deg.cell hdg
      have hdb : Ro.deg es k ≤ 8388608 := by
        have := Cs.out_len_le (es := es) (v := k) (2 * es.length)
        unfold Ro.deg
        omega
      obtain ⟨dg, hdge⟩ : ∃ dg, dg = Ro.deg es k := ⟨_, rfl⟩
      rw [← hdge] at cdg hdb
      have HDG := Nu.hid hdge
      have hin := HVS.out.in2
      have hlow : ∀ (a : Nat) (y : Value) (b : Nat), vs[a]? = some y → y.ownBlock = some b → b < W0.heap.size := fun a y b hy hb => by
        obtain ⟨kk, hkk⟩ := HVS.out.rw.at hy
        exact (World.ownsRow.lt (HVS.out.rw.row a y kk hy hkk) b hb).2
      have HLOW := Nu.hid hlow
      clear hc hL hlk hLk hp1 hdg hdge hlow
      go_wp2_with (at_make; refine wpList_make_own _ rfl _ _ 39 rfl W0.heap.size 3 i1 (.int .i64 0) 1 Try.underlying39 hi1 hy0 hy1 _ _ _ dg rfl rfl rfl (by rw [hy2]; omega) (by unfold maxLen; omega) (Nat.le_refl _) ?_; refine Hid.out ?_)
      refine Nu.hid ?_
      intro w4 ho4 hg4
      have hb4 : Below W0.heap.size W0 w4 := (Below.refl _ _).grown hg4 (Nat.le_refl _) (fun j hj => by cases hj)
      have hvs4 := HVS.out.later hb4
      have hlo4 := hvs4.fi.lo
      have hr34 := hvs4.r3
      have HAT := Nu.hid (fat_any w.heap.size q gf ga gl ls.length ao ca es F An D k w w4 ⟨hvs4.fi.blk, hvs4.fi.first, hvs4.fi.another, hvs4.fi.leading, ⟨by omega, by omega, by omega, by omega⟩, hvs4.fi.ne⟩ HFI.out HLD.out HE.out rfl hvs4.low HVAL.out hlt)
      have HVS4 := Nu.hid hvs4
      have HO4 : Hid (OwnZ w4 W0.heap.size (.slice (some ⟨W0.heap.size, 0, none⟩) 0 dg) []) := ho4
      have HB4 := Nu.hid hb4
      clear ho4 hg4 hb4 hvs4 hlo4 hr34 c0 c1 c2 c3 cdg
      go_wp2_with (go_at_call 36; refine HAT.out.mono ?_; refine Hid.out ?_)
      refine Nu.hid ?_
      rintro e w5 ⟨rfl, hw5, D5, hf5, hld5⟩
      have hgl : gl < W0.heap.size := by have := HVS.out.r2; omega
      have hvs5 := HVS4.out.told hw5 ⟨hf5.blk, hf5.first, hf5.another, hf5.leading, HVS4.out.fi.lo, hf5.ne⟩
      have HO5 : Hid (OwnZ w5 W0.heap.size (.slice (some ⟨W0.heap.size, 0, none⟩) 0 dg) []) := HO4.out.same fun g hg hg2 => hw5.block g hg2 (by
        show ¬ g = gl
        obtain rfl : W0.heap.size = g := by simpa [Value.ownBlock] using hg
        omega)
      have HLD5 := Nu.hid hld5
      have HVS5 := Nu.hid hvs5
      have hs5 : W0.heap.size ≤ w5.heap.size := Nat.le_trans HB4.out.size hw5.size
      clear hw5 hf5 hld5 hvs5 HAT HVS4 HO4 HB4 hcr
      go_wp2
      go_loopw [10, 43] (fun c5 c6 wr => ∃ (i : Nat) (f : Nat → Bool), i ≤ p1 ∧ c6 = .int .i64 (i : Int) ∧ Ro.elt es k [] (l.map (Ro.hl es k)) = Ro.elt es k ((l.map (Ro.hl es k)).take i) ((l.map (Ro.hl es k)).drop i) ∧ Ro.Sd es f k DD ((l.map (Ro.hl es k)).take i) ∧ OwnZ wr W0.heap.size c5 ((l.map (Ro.hl es k)).take i) ∧ VS wr w w1.heap.size w2.heap.size p gd gs q gf ga gl ls.length ao ca es f F An D5 vs (Ro.fill id (Ro.hls es 0 ls) k) ∧ W0.heap.size ≤ wr.heap.size) (fun _ c6 _ => p1 - (intOf c6).toNat)
      case atStart => exact ⟨0, f, Nat.zero_le _, rfl, rfl, HSD.out, HO5.out, HVS5.out, hs5⟩
      case round =>
        clear HO5 HVS5 HSD hs5
        obtain ⟨i, f, hi, rfl, hel, hsd, ho, hvs, hsw⟩ := hrel
        have HEL := Nu.hid hel
        have HSD := Nu.hid hsd
        have HO := Nu.hid ho
        have HVI := Nu.hid hvs
        obtain ⟨ro, rc, erow, -, -⟩ := ho.form
        subst erow
        generalize hrl : ((l.map (Ro.hl es k)).take i).length = rl at *
        have HRL2 : Hid (rl = i) := by show _ = _; rw [← hrl, List.length_take, List.length_map, HP1.out]; omega
        have HRL := Nu.hid hrl
        clear hel hsd ho hvs hrl
        by_cases hil : i < p1
        · have hili : (i : Int) < (p1 : Int) := by omega
          have hi0 : (0 : Int) ≤ (i : Int) := by omega
          obtain ⟨x, hxi⟩ : ∃ x, l[i]? = some x := ⟨_, List.getElem?_eq_getElem (by have := HP1.out; omega)⟩
          obtain ⟨lb, lo', rfl, lc⟩ := (HL.out.later HVI.out.low).elem hxi
          have hLi : (l.map (Ro.hl es k))[i]? = some (Ro.hl es k x) := by rw [List.getElem?_map, hxi]; rfl
          have HLI := Nu.hid hLi
          have HTO := Nu.hid (fto_any w1.heap.size q gf ga gl ls.length ao ca es F An D5 x wr HVI.out.fi HLD5.out.len)
          obtain ⟨h, hh⟩ : ∃ h, h = Ro.toF ls.length D5 x := ⟨_, rfl⟩
          have hcase := HLD5.out.to HVAL.out x
          rw [← hh] at HTO hcase
          have HCS := Nu.hid hcase
          have HST := Nu.hid (stand_any w.heap.size p gd gs ls.length ao ca es f k h wr HVI.out.rd (HE.out.later HVI.out.low) HVAL.out)
          clear hxi hLi hh hcase
          go_wp2_with (go_at_call 37; refine HTO.out.mono ?_; rintro e w6 ⟨rfl, hw6⟩; obtain rfl := hw6.symm; refine Hid.out ?_)
          refine Nu.hid ?_
          clear HTO
          go_wp2_with (go_at_call 38; refine HST.out.mono ?_; refine Hid.out ?_)
          refine Nu.hid ?_
          rintro e w7 ⟨hw7, hp⟩
          have hb7 := hw7.below HVI.out.low.size (B := w.heap.size) (fun k hk => by rw [hk]; exact HVI.out.rd.lo.2.2)
          have HB7 := Nu.hid (HVI.out.low.trans hb7)
          rcases hp with ⟨hlv, rfl⟩ | ⟨hlv, hf, rfl⟩ | ⟨hlv, hf, rfl, hr7⟩
          · refine ⟨rfl, VertsPost.bad HB7.out ?_ (by decide)⟩
            rcases HCS.out with ⟨h1, -⟩ | ⟨-, h2⟩
            · rw [hlv] at h1; cases h1
            · rw [HCK.out, HCH.out, Ro.drop_cons HLK.out]
              exact Ro.chk_bad (Ro.vtx_elt (by rw [HEL.out, Ro.drop_cons HLI.out, Ro.elt_half h2]) (by decide)) (by decide)
          · refine ⟨rfl, VertsPost.bad HB7.out ?_ (by decide)⟩
            rcases HCS.out with ⟨-, h2, j, -, h3⟩ | ⟨h1, -⟩
            · rw [← h2, h3] at HLI
              rw [h3] at hlv hf
              rw [Int.toNat_natCast] at hf
              rw [HCK.out, HCH.out, Ro.drop_cons HLK.out]
              exact Ro.chk_bad (Ro.vtx_elt (by rw [HEL.out, Ro.drop_cons HLI.out, Ro.elt_twice hlv ((HSD.out.twice hlv).1 hf)]) (by decide)) (by decide)
            · rw [hlv] at h1; cases h1
          · rcases HCS.out with ⟨-, h2, j, -, h3⟩ | ⟨h1, -⟩
            case inr => rw [hlv] at h1; cases h1
            rw [← h2, h3] at HLI
            subst h3
            rw [Int.toNat_natCast] at hf hr7
            have HEL2 := Nu.hid (show Ro.elt es k [] (l.map (Ro.hl es k)) = Ro.elt es k ((l.map (Ro.hl es k)).take (i + 1)) ((l.map (Ro.hl es k)).drop (i + 1)) by
              rw [HEL.out, Ro.drop_cons HLI.out, Ro.elt_on hlv (fun hm => by have h5 := (HSD.out.twice hlv).2 hm; rw [h5] at hf; cases hf), Ro.take_snoc' HLI.out])
            have HSD2 := Nu.hid (show Ro.Sd es (Co.updB f j true) k DD ((l.map (Ro.hl es k)).take (i + 1)) by rw [Ro.take_snoc' HLI.out]; exact HSD.out.put hlv)
            have HVI7 := Nu.hid (HVI.out.marked hw7 hr7)
            have HO7 : Hid (OwnZ w7 W0.heap.size (.slice ro rl rc) ((l.map (Ro.hl es k)).take i)) := HO.out.same fun g hg hg2 => hw7.block g hg2 (by
              show ¬ g = gs
              have h6 := (World.ownsRow.lt HO.out g hg).1
              have h7 := HVI.out.r1
              have h8 := HVI.out.r3
              omega)
            have hs7 : W0.heap.size ≤ w7.heap.size := Nat.le_trans hsw hw7.size
            have HTS := Nu.hid (Ro.take_snoc' HLI.out)
            clear hlv hf hr7 hw7 hb7 h2 HCS HST
            go_wp2_with (at_builtin; refine wpList_push rfl _ _ rfl w7 W0.heap.size _ ((l.map (Ro.hl es k)).take i) (j : Int) HO7.out hs7 (by rw [HRL.out, HRL2.out]; omega) rfl rfl ?_; refine Hid.out ?_)
            refine Nu.hid ?_
            intro v' w' ho' _ _ hb'
            have HO' := Nu.hid (show OwnZ w' W0.heap.size v' ((l.map (Ro.hl es k)).take (i + 1)) by rw [HTS.out]; exact ho')
            have HV' := Nu.hid (HVI7.out.below hb' hin HLOW.out)
            have hs' : W0.heap.size ≤ w'.heap.size := Nat.le_trans hs7 hb'.size
            clear ho' hb'
            go_wp2
            go_roundw
            case rel => exact ⟨i + 1, _, by omega, by go_num, HEL2.out, HSD2.out, HO'.out, HV'.out, hs'⟩
            case measure => simp [intOf]; omega
        · have hili : ¬ (i : Int) < (p1 : Int) := by omega
          obtain rfl : i = p1 := by omega
          have hLl : (l.map (Ro.hl es k)).length = i := by rw [List.length_map]; exact HP1.out
          have HEL0 := Nu.hid (show Ro.elt es k [] (l.map (Ro.hl es k)) = 0 by rw [HEL.out, List.drop_of_length_le (by omega)]; rfl)
          have HOV : Hid (OwnZ wr W0.heap.size (.slice ro rl rc) (l.map (Ro.hl es k))) := by
            have := HO.out
            rw [List.take_of_length_le (by omega)] at this
            exact this
          have HSDN : Hid (Ro.Sd es f (k + 1) (DD ++ (l.map (Ro.hl es k)).take i) []) := HSD.out.next
          have HLL := Nu.hid hLl
          have HEN := Nu.hid (rend_any w.heap.size p gd gs ls.length ao ca es f k i wr HVI.out.rd HVAL.out hlt)
          have hfl : (Ro.fill id (Ro.hls es 0 ls) k).length = ls.length := by rw [Ro.fill_len _ _ (by rw [HHL.out]; omega), HHL.out]
          obtain ⟨⟨y, hy⟩, hfr, hst, hbs⟩ := HVI.out.rw.store2 hfl hlt hin HLOW.out HOV.out (by omega)
          rw [show (Ro.fill id (Ro.hls es 0 ls) k).set k (l.map (Ro.hl es k)) = Ro.fill id (Ro.hls es 0 ls) (k + 1) from Ro.fill_set (f := id) HLK.out] at hst
          have HST := Nu.hid hst
          have HBS := Nu.hid hbs
          clear hLl hst hbs hfl
          go_wp2_with (go_at_call 39; refine HEN.out.mono ?_; refine Hid.out ?_)
          refine Nu.hid ?_
          rintro e w6 ⟨hw6, hp⟩
          obtain rfl := hw6.symm
          rcases hp with ⟨hd, rfl⟩ | ⟨hd, rfl⟩
          · refine ⟨rfl, VertsPost.bad HVI.out.low ?_ (by decide)⟩
            rw [HCK.out, HCH.out, Ro.drop_cons HLK.out]
            exact Ro.chk_bad (Ro.vtx_missing HEL0.out (by rw [HLL.out]; exact hd)) (by decide)
          · have HCH2 := Nu.hid (show Ro.chk es 0 (Ro.hls es 0 ls) = Ro.chk es (k + 1) ((Ro.hls es 0 ls).drop (k + 1)) by
              rw [HCH.out, Ro.drop_cons HLK.out, Ro.chk_on (Ro.vtx_ok HEL0.out (by rw [HLL.out]; exact hd))])
            have HV8 : Hid (VS (wr.setCell ⟨w2.heap.size, k, none⟩ (.slice ro rl rc)) w w1.heap.size w2.heap.size p gd gs q gf ga gl ls.length ao ca es f F An D5 (vs.set k (.slice ro rl rc)) (Ro.fill id (Ro.hls es 0 ls) (k + 1))) := by
              have h1 := HVI.out.r1
              have h2 := HVI.out.r2
              have h3 := HVI.out.r3
              exact ⟨HVI.out.rd.keep fun b hq => HBS.out.block b (by omega), HVI.out.fi.keep fun b hq => HBS.out.block b (by omega), HST.out, HVI.out.low.trans (HBS.out.mono (by omega)), h1, h2, h3⟩
            have HLD6 := Nu.hid HLD5.out.next
            clear hd
            go_wp2
            go_roundw
            case rel => exact ⟨k + 1, f, _, D5, _, by omega, by go_num, HCH2.out, HSDN.out, HLD6.out, HV8.out⟩
            case measure => simp [intOf]; omega
    · have hlti : ¬ (k : Int) < (ls.length : Int) := by omega
      obtain rfl : k = ls.length := by omega
      have HC0 : Hid ((Ro.check (ls.length : Int) es (Ro.hls es 0 ls)).2 = 0) := by
        show _ = _
        rw [HCK.out, HCH.out, List.drop_of_length_le (by rw [HHL.out]; exact Nat.le_refl _)]
        rfl
      have HR1 : Hid (RowsZ W0 w.heap.size (.slice (some ⟨w2.heap.size, 0, none⟩) ls.length ls.length) vs (Ro.hls es 0 ls)) := by
        have h1 := HVS.out.rw
        have h2 := HVS.out.r3
        have e1 : Ro.fill id (Ro.hls es 0 ls) ls.length = Ro.hls es 0 ls := by
          rw [← HHL.out, Ro.fill_all]
          simp
        rw [e1] at h1
        exact h1.lower (by omega)
      go_wp2
      go_ret
      exact ⟨HVS.out.low, .inl ⟨HC0.out, _, vs, rfl, HR1.out⟩⟩

end Go.Proofs.Ytjlfdkeklilafab

/-
  From: rotations told by vertices, of any graph and lists.
-/
namespace Go.Proofs.Ytjlfdkeklilafab
open Go.RowKit Go.Sort

/-- What the reading leaves: the lists in the box, or the box as it was. -/
def Fr1Post (n : Int) (es : List (Int × Int)) (ls : List (List Int)) (b : Nat) (w : World) (e : Ending) (w' : World) : Prop :=
  Wrote (fun k => k = b) w w' ∧ (((Ro.check n es (Ro.hls es 0 ls)).2 = 0 ∧ e = .returned (.tuple #[]) ∧ ∃ r rs, w'.heap[b]? = some (.cells #[r] 26 (0, 0)) ∧ RowsZ w' w.heap.size r rs (Ro.hls es 0 ls)) ∨
    ((Ro.check n es (Ro.hls es 0 ls)).2 ≠ 0 ∧ e = .panicked [{ v := rfaultV (Ro.check n es (Ro.hls es 0 ls)).1 (Ro.check n es (Ro.hls es 0 ls)).2, recovered := false }] ∧ w'.heap[b]? = some (.cells #[.slice none 0 0] 26 (0, 0))))

set_option maxRecDepth 100000 in
set_option maxHeartbeats 4000000 in
theorem from1_any (n : Int) (ao : Option Addr) (ca : Nat) (es : List (Int × Int)) (xo : Option Addr) (xc : Nat) (ls : List (List Int)) (b : Nat) (w : World) (he : EdgesAt w ao es) (hl : es.length ≤ 4611686018427387904) (hx : RwsAt w xo ls)
    (hg : w.heap[b]? = some (.cells #[.int .i64 n, .slice ao es.length ca] 24 (0, 0))) (hr : w.heap[b + 1]? = some (.cells #[.slice xo ls.length xc] 25 (0, 0))) (hbx : w.heap[b + 2]? = some (.cells #[.slice none 0 0] 26 (0, 0))) :
    Calls Try.prog 22 #[.pointer (some ⟨b, 0, none⟩), .pointer (some ⟨b + 1, 0, none⟩), .pointer (some ⟨b + 2, 0, none⟩)] w (Fr1Post n es ls (b + 2) w) := by
  obtain ⟨g0, g1, -⟩ := pair_cells hg
  have r0 := cell_of_one hr
  have HH := Nu.hid (readVertices_any n ao ca es xo xc ls w he hl hx)
  have HBX := Nu.hid hbx
  unfold graphVal at HH
  clear he hx hg hr hbx
  go_enter Try.func22, Try.ntmps22
  go_wp2_with (go_at_call 23; refine HH.out.mono ?_; refine Hid.out ?_)
  refine Nu.hid ?_
  rintro e w1 ⟨hb, hp⟩
  have hB1 := (hb.block _ (lt_of_block HBX.out)).trans HBX.out
  rcases hp with ⟨hc, r, rs, rfl, hrz⟩ | ⟨hc, rfl⟩
  · obtain ⟨ro, rc, rfl⟩ := row_shape hrz
    have k0 := cell_of_one hB1
    have f0 := free_of_one hB1
    have HB := Nu.hid hb
    have HC := Nu.hid hc
    have HRZ := Nu.hid hrz
    have HB1 := Nu.hid hB1
    have HLT := Nu.hid (lt_of_block HBX.out)
    generalize hq : (Ro.hls es 0 ls).length = ql at *
    clear hb hc hrz hB1
    go_wp2
    go_end0
    refine ⟨((Wrote.refl (fun k => k = b + 2) w).later HB.out).setCell (b := b + 2) rfl _, .inl ⟨HC.out, rfl, _, rs, one_setCell HB1.out, ?_⟩⟩
    refine HRZ.out.kept fun g hg hg2 => blk_same ?_ _
    have h1 := HLT.out
    rcases hg with hg | ⟨u, x, hx, hxb⟩
    · have := (World.ownsRow.lt HRZ.out.outer g hg).1
      omega
    · obtain ⟨k, hk⟩ := HRZ.out.at hx
      have := (World.ownsRow.lt (HRZ.out.row u x k hx hk) g hxb).1
      omega
  · exact ⟨rfl, (Wrote.refl _ _).later hb, .inr ⟨hc, rfl, hB1⟩⟩

theorem fr1_enters : ∀ (args : Array Value) (w : World), (callFunc 22 args).run Try.prog w = .ok (.enter 22 args) w := enters_of Try.func22 (by kernel_rfl) rfl

set_option maxRecDepth 100000 in
set_option maxHeartbeats 8000000 in
theorem from_any11 (n : Int) (ao : Option Addr) (ca : Nat) (es : List (Int × Int)) (xo : Option Addr) (xc : Nat) (ls : List (List Int)) (w : World) (he : EdgesAt w ao es) (hl : es.length ≤ 4611686018427387904) (hx : RwsAt w xo ls) :
    Calls Try.prog 7 #[graphVal n ao es.length ca, .slice xo ls.length xc] w (FromP n es ls w) := by
  have hmf : ∀ (fn : Fn) (first cap : Array Value) (w : World), (Instr.makeFunc fn first cap).run Try.prog w = .ok (.func fn first cap) w := fun _ _ _ _ => rfl
  obtain ⟨W0, hW0⟩ : ∃ W, W = ((w.alloc (.cells #[.int .i64 n, .slice ao es.length ca] 24)).alloc (.cells #[.slice xo ls.length xc] 25)).alloc (.cells #[.slice none 0 0] 26) := ⟨_, rfl⟩
  have hb0 : Below w.heap.size w W0 := by rw [hW0]; exact (((Below.refl _ _).alloc (Nat.le_refl _) _).alloc (by simp) _).alloc (by simp; omega) _
  have hs0 : W0.heap.size = w.heap.size + 3 := by rw [hW0]; simp
  have hg : W0.heap[w.heap.size]? = some (.cells #[.int .i64 n, .slice ao es.length ca] 24 (0, 0)) := by
    rw [hW0, Below.heap_alloc _ _ _ (by simp; omega), Below.heap_alloc _ _ _ (by simp)]
    exact heap_alloc_new w _
  have hr : W0.heap[w.heap.size + 1]? = some (.cells #[.slice xo ls.length xc] 25 (0, 0)) := by
    rw [hW0, Below.heap_alloc _ _ _ (by simp)]
    exact alloc_at (by simp)
  have hbx : W0.heap[w.heap.size + 2]? = some (.cells #[.slice none 0 0] 26 (0, 0)) := by
    rw [hW0]
    exact alloc_at (by simp)
  obtain ⟨Wc, hWc⟩ : ∃ Wc, Wc = W0.alloc (.cells #[.int .i64 0, .int .i64 0] 53) := ⟨_, rfl⟩
  have hb1 : Below W0.heap.size W0 Wc := by rw [hWc]; exact (Below.refl _ _).alloc (Nat.le_refl _) _
  have hsc : Wc.heap.size = w.heap.size + 4 := by rw [hWc]; simp [hs0]
  have hflt : FltAt Wc W0.heap.size 0 0 := by rw [hWc]; exact heap_alloc_new W0 _
  have hc1 := from1_any n ao ca es xo xc ls w.heap.size Wc ((he.later hb0).later hb1) hl ((hx.later hb0).later hb1) ((hb1.block _ (by omega)).trans hg) ((hb1.block _ (by omega)).trans hr) ((hb1.block _ (by omega)).trans hbx)
  have hca := caught_any 22 #[.pointer (some ⟨w.heap.size, 0, none⟩), .pointer (some ⟨w.heap.size + 1, 0, none⟩), .pointer (some ⟨w.heap.size + 2, 0, none⟩)]
    (fun W => (Ro.check n es (Ro.hls es 0 ls)).2 = 0 ∧ Below w.heap.size w W ∧ w.heap.size + 3 < W.heap.size ∧ ∃ r rs, W.heap[w.heap.size + 2]? = some (.cells #[r] 26 (0, 0)) ∧ RowsZ W (w.heap.size + 4) r rs (Ro.hls es 0 ls))
    (fun v c W => v = (Ro.check n es (Ro.hls es 0 ls)).1 ∧ c = (Ro.check n es (Ro.hls es 0 ls)).2 ∧ c ≠ 0 ∧ Below w.heap.size w W ∧ w.heap.size + 3 < W.heap.size ∧ W.heap[w.heap.size + 2]? = some (.cells #[.slice none 0 0] 26 (0, 0))) W0 fr1_enters
    (by
      rw [← hWc]
      refine hc1.mono ?_
      rintro e w2 ⟨hw2, hp⟩
      have hbw : Below w.heap.size w w2 := by
        have h1 := hb0.trans (hb1.mono hb0.size)
        exact h1.trans (hw2.below h1.size fun k hk => by rw [hk]; omega)
      have hsz : w.heap.size + 3 < w2.heap.size := by have := hw2.size; omega
      refine ⟨(hw2.block W0.heap.size (by omega) (by show ¬ W0.heap.size = w.heap.size + 2; omega)).trans hflt, ?_⟩
      rcases hp with ⟨h0, rfl, r, rs, h1, h2⟩ | ⟨h0, rfl, h1⟩
      · rw [hsc] at h2
        exact .inl ⟨rfl, h0, hbw, hsz, r, rs, h1, h2⟩
      · exact .inr ⟨_, _, rfl, rfl, rfl, h0, hbw, hsz, h1⟩)
  have HCA := Nu.hid hca
  have HS0 := Nu.hid hs0
  unfold graphVal
  clear he hx hg hr hbx hb1 hc1 hca hb0 hs0 hWc hsc hflt
  rw [hW0] at HCA
  have HW := Nu.hid hW0
  clear hW0
  go_enter Try.func7, Try.ntmps7
  go_wp2_with (go_at_call 21; refine HCA.out.mono ?_; refine Hid.out ?_)
  refine Nu.hid ?_
  rintro e w1 ⟨W1, hp, hw⟩
  have hWe := HW.out
  rw [← hWe] at hw
  rw [HS0.out] at hw
  rcases hp with ⟨⟨h0, hb, hsz, r, rs, h1, h2⟩, rfl⟩ | ⟨v, c, ⟨hv, hc, h0, hb, hsz, h1⟩, rfl⟩
  · have hb2 : Below w.heap.size w w1 := hb.trans (hw.below hb.size fun k hk => by rw [hk]; omega)
    have hbx1 := (hw.block (w.heap.size + 2) (by omega) (by show ¬ w.heap.size + 2 = w.heap.size + 3; omega)).trans h1
    have hrz1 : RowsZ w1 (w.heap.size + 4) r rs (Ro.hls es 0 ls) := h2.kept fun g hg hg2 => hw.block g hg2 (by
      show ¬ g = w.heap.size + 3
      rcases hg with hg | ⟨u, x, hx, hxb⟩
      · have := (World.ownsRow.lt h2.outer g hg).1
        omega
      · obtain ⟨k, hk⟩ := h2.at hx
        have := (World.ownsRow.lt (h2.row u x k hx hk) g hxb).1
        omega)
    obtain ⟨ro, rc, rfl⟩ := row_shape hrz1
    have k0 := cell_of_one hbx1
    have HRZ := Nu.hid hrz1
    have HB2 := Nu.hid hb2
    have H0 := Nu.hid h0
    generalize hq : (Ro.hls es 0 ls).length = ql at *
    have hlt1 := lt_of_block hbx1
    clear hw hb hsz h1 h2 h0 hb2 hbx1 hrz1 hWe hq
    go_wp2
    go_region
    go_wp2
    go_ret3
    refine ⟨(HB2.out.alloc HB2.out.size _).drew, .inr ⟨H0.out, _, rs, rfl, ?_⟩⟩
    exact ((HRZ.out.later ((Below.refl _ _).alloc (Nat.le_refl _) _)).later (Below.refl _ _).drew).lower (by omega)
  · have hb2 : Below w.heap.size w w1 := hb.trans (hw.below hb.size fun k hk => by rw [hk]; omega)
    have hbx1 := (hw.block (w.heap.size + 2) (by omega) (by show ¬ w.heap.size + 2 = w.heap.size + 3; omega)).trans h1
    have k0 := cell_of_one hbx1
    have HB2 := Nu.hid hb2
    have H0 := Nu.hid h0
    have HV := Nu.hid hv
    have HC := Nu.hid hc
    have hlt1 := lt_of_block hbx1
    clear hw hb hsz h1 h0 hb2 hbx1 hWe hv hc
    go_wp2
    go_region
    go_wp2
    go_ret3
    have hv := HV.out
    have hc := HC.out
    subst hv
    refine ⟨(HB2.out.alloc HB2.out.size _).drew, .inl ⟨by rw [← hc]; exact H0.out, ?_⟩⟩
    rw [← hc]
    rfl

end Go.Proofs.Ytjlfdkeklilafab
