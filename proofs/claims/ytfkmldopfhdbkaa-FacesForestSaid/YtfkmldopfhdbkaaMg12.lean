import Derived.Test.YtfkmldopfhdbkaaMg11
import Derived.Test.YtfkmldopfhdbkaaMg09
import Derived.Test.YtfkmldopfhdbkaaMg03
import Derived.Test.YtfkmldopfhdbkaaMg05
import Derived.Test.YtfkmldopfhdbkaaMg06
import Derived.Defers
import Derived.Recover
import Derived.Shelf.Abstract
/-
  The reader: it holds lists against a graph, and gives up at the first fault.
-/
namespace Go.Proofs.Ytfkmldopfhdbkaa
open Go.RowKit Go.Sort

def rfaultV (v : Nat) (c : Int) : Value := .iface 88 (.agg #[.int .i64 (v : Int), .int .i64 c])

/-- Block p is a reader of the graph: the degrees at gd, what stood at gs; all laid since block B. -/
structure RdAt (w : World) (B p gd gs n : Nat) (ao : Option Addr) (ca : Nat) (es : List (Int × Int)) (f : Nat → Bool) : Prop where
  blk : w.heap[p]? = some (.cells #[.int .i64 (n : Int), .slice ao es.length ca, .slice (some ⟨gd, 0, none⟩) n n, .slice (some ⟨gs, 0, none⟩) (2 * es.length) (2 * es.length)] 113 (0, 0))
  deg : IntsBlk w gd (Si.degs n es)
  std : BoolsIn w gs (2 * es.length) f
  lo : B ≤ p ∧ B ≤ gd ∧ B ≤ gs
  ne : p ≠ gs ∧ gd ≠ gs ∧ p ≠ gd

theorem RdAt.later {w w' : World} {B p gd gs n : Nat} {ao : Option Addr} {ca : Nat} {es : List (Int × Int)} {f : Nat → Bool} (h : RdAt w B p gd gs n ao ca es f) (hb : Below w.heap.size w w') : RdAt w' B p gd gs n ao ca es f :=
  ⟨(hb.block p (lt_of_block h.blk)).trans h.blk, h.deg.later hb, h.std.later hb, h.lo, h.ne⟩

theorem RdAt.keep {w w' : World} {B p gd gs n : Nat} {ao : Option Addr} {ca : Nat} {es : List (Int × Int)} {f : Nat → Bool} (h : RdAt w B p gd gs n ao ca es f) (hb : ∀ b, b = p ∨ b = gd ∨ b = gs → w'.heap[b]? = w.heap[b]?) : RdAt w' B p gd gs n ao ca es f :=
  ⟨(hb p (.inl rfl)).trans h.blk, (hb gd (.inr (.inl rfl))).trans h.deg, (hb gs (.inr (.inr rfl))).trans h.std, h.lo, h.ne⟩

theorem RdAt.set {w : World} {B p gd gs n : Nat} {ao : Option Addr} {ca : Nat} {es : List (Int × Int)} {f : Nat → Bool} (h : RdAt w B p gd gs n ao ca es f) (j : Nat) (y : Bool) : RdAt (w.setCell ⟨gs, j, none⟩ (.bool y)) B p gd gs n ao ca es (Co.updB f j y) :=
  ⟨(blk_same h.ne.1 _).trans h.blk, h.deg.set_far h.ne.2.1 _, h.std.set j y, h.lo, h.ne⟩

theorem below_setCell {w : World} {B g j : Nat} (x : Value) (h : B ≤ g) : Below B w (w.setCell ⟨g, j, none⟩ x) :=
  ⟨rfl, rfl, rfl, by simp, fun k hk => heap_setCell_other w ⟨g, j, none⟩ k x (by show k ≠ g; omega)⟩

def StandPost (B p gd gs n : Nat) (ao : Option Addr) (ca : Nat) (es : List (Int × Int)) (f : Nat → Bool) (v : Nat) (h : Int) (w : World) (e : Ending) (w' : World) : Prop :=
  Wrote (fun b => b = gs) w w' ∧ ((Ro.lv es h v = false ∧ e = .panicked [{ v := rfaultV v 111, recovered := false }]) ∨ (Ro.lv es h v = true ∧ f h.toNat = true ∧ e = .panicked [{ v := rfaultV v 112, recovered := false }]) ∨
    (Ro.lv es h v = true ∧ f h.toNat = false ∧ e = .returned (.tuple #[]) ∧ RdAt w' B p gd gs n ao ca es (Co.updB f h.toNat true)))

set_option maxRecDepth 100000 in
set_option maxHeartbeats 4000000 in
theorem stand_any (B p gd gs n : Nat) (ao : Option Addr) (ca : Nat) (es : List (Int × Int)) (f : Nat → Bool) (v : Nat) (h : Int) (w : World) (hr : RdAt w B p gd gs n ao ca es f) (he : EdgesAt w ao es) (hv : Si.Val n es) :
    Calls Try.prog 71 #[.pointer (some ⟨p, 0, none⟩), .int .i64 (v : Int), .int .i64 h] w (StandPost B p gd gs n ao ca es f v h w) := by
  have HL := Nu.hid (leaves_any n ao ca es h v w he hv)
  obtain ⟨c0, c1, c2, c3, -⟩ := four_cells hr.blk
  have hpl := lt_of_block hr.blk
  have HR := Nu.hid hr
  have hfew := hv.few
  clear hr he hv
  cases hlv : Ro.lv es h v with
  | false =>
    rw [hlv] at HL
    have HLV := Nu.hid hlv
    clear hlv
    go_enter Try.func71, Try.ntmps71
    go_wp2_with (go_at_call 80; refine HL.out.mono ?_; rintro e w1 ⟨rfl, hb1⟩)
    exact ⟨rfl, (Wrote.refl _ _).later hb1, .inl ⟨HLV.out, rfl⟩⟩
  | true =>
    rw [hlv] at HL
    obtain ⟨j, rfl, hj⟩ : ∃ j : Nat, h = (j : Int) ∧ j < 2 * es.length := by
      unfold Ro.lv at hlv
      simp at hlv
      exact ⟨h.toNat, by omega, by omega⟩
    have HLV := Nu.hid hlv
    clear hlv
    have hj2 : (j : Int) < 2 * (es.length : Int) := by omega
    have HJ := Nu.hid hj
    clear hj
    go_enter Try.func71, Try.ntmps71
    go_wp2_with (go_at_call 80; refine HL.out.mono ?_; rintro e w1 ⟨rfl, hb1⟩; refine Hid.out ?_)
    refine Nu.hid ?_
    have hr1 := HR.out.later hb1
    have HB1 := Nu.hid ((Wrote.refl (fun b => b = gs) w).later hb1)
    clear c0 c1 c2 c3 hb1
    obtain ⟨c0, c1, c2, c3, -⟩ := four_cells hr1.blk
    have cs := hr1.std.cell HJ.out
    have cf := hr1.std.free j
    have HR1 := Nu.hid hr1
    clear hr1
    cases hf : f j with
    | true =>
      rw [hf] at cs
      go_wp2
      exact ⟨rfl, HB1.out, .inr (.inl ⟨HLV.out, hf, rfl⟩)⟩
    | false =>
      rw [hf] at cs
      have HF := Nu.hid hf
      clear hf
      go_wp2
      go_end0
      exact ⟨HB1.out.setCell rfl _, .inr (.inr ⟨HLV.out, HF.out, rfl, HR1.out.set j true⟩)⟩

def EndPost (es : List (Int × Int)) (v k : Nat) (w : World) (e : Ending) (w' : World) : Prop :=
  w' = w ∧ ((k < Ro.deg es v ∧ e = .panicked [{ v := rfaultV v 113, recovered := false }]) ∨ (¬ k < Ro.deg es v ∧ e = .returned (.tuple #[])))

set_option maxRecDepth 100000 in
set_option maxHeartbeats 4000000 in
theorem rend_any (B p gd gs n : Nat) (ao : Option Addr) (ca : Nat) (es : List (Int × Int)) (f : Nat → Bool) (v k : Nat) (w : World) (hr : RdAt w B p gd gs n ao ca es f) (hv : Si.Val n es) (hvn : v < n) :
    Calls Try.prog 72 #[.pointer (some ⟨p, 0, none⟩), .int .i64 (v : Int), .int .i64 (k : Int)] w (EndPost es v k w) := by
  obtain ⟨c0, c1, c2, c3, -⟩ := four_cells hr.blk
  have hd : (Si.degs n es)[v]? = some (Ro.deg es v : Int) := by
    have := Cs.degs_out hv es.length (Nat.le_refl _) v hvn
    rw [List.take_length] at this
    exact this
  have cd := hr.deg.cell hd
  have hvn2 : (v : Int) < (n : Int) := by omega
  obtain ⟨D, hD⟩ : ∃ D, D = Ro.deg es v := ⟨_, rfl⟩
  unfold EndPost
  rw [← hD] at cd ⊢
  clear hr hd hv hD
  by_cases hk : k < D
  · have hk2 : (k : Int) < (D : Int) := by omega
    go_enter Try.func72, Try.ntmps72
    go_wp2
    exact ⟨rfl, rfl, .inl ⟨hk, rfl⟩⟩
  · have hk2 : ¬ (k : Int) < (D : Int) := by omega
    go_enter Try.func72, Try.ntmps72
    go_wp2
    go_end0
    exact ⟨rfl, rfl⟩

end Go.Proofs.Ytfkmldopfhdbkaa

/-
  A reader that begins.
-/
namespace Go.Proofs.Ytfkmldopfhdbkaa
open Go.RowKit Go.Sort

def NewRdPost (n : Int) (ao : Option Addr) (ca : Nat) (es : List (Int × Int)) (k : Nat) (w : World) (e : Ending) (w' : World) : Prop :=
  Below w.heap.size w w' ∧ ((Si.valid n es = false ∧ e = .panicked [{ v := rfaultV 0 1, recovered := false }]) ∨ (Si.valid n es = true ∧ (k : Int) ≠ n ∧ e = .panicked [{ v := rfaultV 0 110, recovered := false }]) ∨
    (Si.valid n es = true ∧ (k : Int) = n ∧ ∃ p gd gs, e = .returned (.pointer (some ⟨p, 0, none⟩)) ∧ RdAt w' w.heap.size p gd gs k ao ca es (fun _ => false)))

set_option maxRecDepth 100000 in
set_option maxHeartbeats 8000000 in
theorem newReader_any (n : Int) (ao : Option Addr) (ca : Nat) (es : List (Int × Int)) (k : Nat) (w : World) (he : EdgesAt w ao es) (hl : es.length ≤ 4611686018427387904) :
    Calls Try.prog 70 #[graphVal n ao es.length ca, .int .i64 (k : Int)] w (NewRdPost n ao ca es k w) := by
  have hb0 : Below w.heap.size w (w.alloc (.cells #[.int .i64 n, .slice ao es.length ca] 24)) := (Below.refl _ _).alloc (Nat.le_refl _) _
  have HD := Nu.hid (degrees_any n ao ca es _ (he.later hb0) hl)
  have HB0 := Nu.hid hb0
  obtain ⟨i0, hi, hz0, hz1, hz2⟩ := info_parts Try.infoBool
  unfold graphVal at HD ⊢
  clear he hb0
  go_enter Try.func70, Try.ntmps70
  go_wp2_with (go_at_call 44; refine HD.out.mono ?_; refine Hid.out ?_)
  refine Nu.hid ?_
  rintro e w1 ⟨hp, hb1⟩
  have hG : w1.heap[w.heap.size]? = some (.cells #[.int .i64 n, .slice ao es.length ca] 24 (0, 0)) := (hb1.block _ (by simp)).trans (heap_alloc_new w _)
  have HB1 := Nu.hid (HB0.out.trans (hb1.mono HB0.out.size))
  obtain ⟨g0, g1, -⟩ := pair_cells hG
  have hsG := lt_of_block hG
  have hs1 : (w.alloc (.cells #[.int .i64 n, .slice ao es.length ca] 24)).heap.size ≤ w1.heap.size := hb1.size
  rw [World.size_alloc] at hs1
  have HG := Nu.hid hG
  clear hb1 hG
  rcases hp with ⟨hv, g, m, rfl, rfl, hg, hint⟩ | ⟨hv, rfl⟩
  · have hval := Si.valid_iff.1 hv
    have hfew := hval.few
    have hlo := hval.lo
    have hhi := hval.hi
    have HV := Nu.hid hv
    have HI := Nu.hid hint
    have hgl := hint.lt
    have HGE := Nu.hid hg
    clear hv hval hint hg
    by_cases hk : k = m
    · subst hk
      obtain ⟨M, hM⟩ : ∃ M, M = 2 * es.length := ⟨_, rfl⟩
      have hmul : IntKind.i64.wrap (2 * (es.length : Int)) = (M : Int) := by rw [IntKind.wrap_i64]; omega
      have hmul2 : 2 * (es.length : Int) = (M : Int) := by omega
      have hMb : M ≤ 8388608 := by omega
      have hM0 : ¬ (M : Int) < 0 := by omega
      have hmk : ∀ W, (Instr.makeSlice 64 (.int .i64 (M : Int)) (.int .i64 (M : Int))).run Try.prog W = .ok (.slice (some ⟨W.heap.size, 0, none⟩) M M) (W.alloc (.cells (madeCells #[.bool false] M) 4)) := fun W => by
        have := run_make (P := Try.prog) W 64 4 i0 (.bool false) Try.underlying64 hi hz0 .i64 .i64 (M : Int) (M : Int) (by omega) (by omega) (by rw [hz2]; omega) (by omega)
        rw [this, hz1]
        simp [Value.cells]
      have HMM := Nu.hid hM
      clear hM hi hz0 hz1 hz2
      go_wp2_with fail
      go_region
      all_goals
        clear hmk
        go_wp2
        go_ret
        have HH := HI.out
        have hB1 := HB1.out
        have hge := HGE.out
        rw [World.size_alloc] at hge
        obtain rfl := HMM.out
        have hA := ((hB1.alloc (by omega) (.cells (madeCells #[.bool false] (2 * es.length)) 4)).alloc (by simp; omega) (.cells #[.int .i64 (k : Int), .slice ao es.length ca, .slice (some ⟨g, 0, none⟩) k k, .slice (some ⟨w1.heap.size, 0, none⟩) (2 * es.length) (2 * es.length)] 113))
        refine ⟨?_, .inr (.inr ⟨HV.out, rfl, w1.heap.size + 1, g, w1.heap.size, rfl, ?_, ?_, ?_, ?_, ?_⟩)⟩
        · first | exact hA | exact hA.drew
        · exact alloc_at (by simp)
        · exact (HH.alloc _).alloc _
        · refine BoolsIn.same (made_bools (W := w1) rfl (2 * es.length)) ?_
          exact Below.heap_alloc _ _ _ (by simp)
        · exact ⟨by omega, by omega, by omega⟩
        · exact ⟨by omega, by omega, by omega⟩
    · have hk2 : ¬ (k : Int) = (m : Int) := by omega
      have hk3 : ((k : Int) != (m : Int)) = true := by simp; omega
      have HK := Nu.hid hk
      clear hk
      go_wp2
      exact ⟨rfl, HB1.out, .inr (.inl ⟨HV.out, hk2, rfl⟩)⟩
  · have HV := Nu.hid hv
    clear hv
    go_wp2
    exact ⟨rfl, HB1.out, .inl ⟨HV.out, rfl⟩⟩

end Go.Proofs.Ytfkmldopfhdbkaa

/-
  Lists of half-edges are read: they come to their end, or the first fault is given up with.
-/
namespace Go.Proofs.Ytfkmldopfhdbkaa
open Go.RowKit Go.Sort

/-- A reading comes to its end with r, or gives up with what is wrong first. -/
def HalvesPost (n : Int) (es : List (Int × Int)) (ls : List (List Int)) (w : World) (e : Ending) (w' : World) : Prop :=
  Below w.heap.size w w' ∧ (((Ro.check n es ls).2 = 0 ∧ e = .returned (.tuple #[])) ∨ ((Ro.check n es ls).2 ≠ 0 ∧ e = .panicked [{ v := rfaultV (Ro.check n es ls).1 (Ro.check n es ls).2, recovered := false }]))

theorem HalvesPost.bad {n : Int} {es : List (Int × Int)} {ls : List (List Int)} {w w' : World} {v : Nat} {c : Int} (hb : Below w.heap.size w w') (h : Ro.check n es ls = (v, c)) (hc : c ≠ 0) : HalvesPost n es ls w (.panicked [{ v := rfaultV v c, recovered := false }]) w' := by
  refine ⟨hb, .inr ?_⟩
  rw [h]
  exact ⟨hc, rfl⟩

set_option maxRecDepth 100000 in
set_option maxHeartbeats 8000000 in
theorem readHalves_any (n : Int) (ao : Option Addr) (ca : Nat) (es : List (Int × Int)) (xo : Option Addr) (xc : Nat) (ls : List (List Int)) (w : World) (he : EdgesAt w ao es) (hl : es.length ≤ 4611686018427387904) (hx : RwsAt w xo ls) :
    Calls Try.prog 56 #[graphVal n ao es.length ca, .slice xo ls.length xc] w (HalvesPost n es ls w) := by
  have hb0 : Below w.heap.size w (w.alloc (.cells #[.int .i64 n, .slice ao es.length ca] 24)) := (Below.refl _ _).alloc (Nat.le_refl _) _
  have HN := Nu.hid (newReader_any n ao ca es ls.length _ (he.later hb0) hl)
  have HB0 := Nu.hid hb0
  have HE := Nu.hid he
  have HX := Nu.hid hx
  unfold graphVal at HN ⊢
  clear he hb0 hx
  go_enter Try.func56, Try.ntmps56
  go_wp2_with (go_at_call 70; refine HN.out.mono ?_; refine Hid.out ?_)
  refine Nu.hid ?_
  rintro e w1 ⟨hb1, hp⟩
  have HB1 := Nu.hid (HB0.out.trans (hb1.mono HB0.out.size))
  have hs1 := hb1.size
  rw [World.size_alloc] at hs1
  clear hb1
  rcases hp with ⟨hv, rfl⟩ | ⟨hv, hk, rfl⟩ | ⟨hv, rfl, p, gd, gs, rfl, hr⟩
  · exact ⟨rfl, HalvesPost.bad HB1.out (by simp [Ro.check, hv]) (by decide)⟩
  · exact ⟨rfl, HalvesPost.bad HB1.out (by simp [Ro.check, hv, hk]) (by decide)⟩
  have hck : Ro.check (ls.length : Int) es ls = Ro.chk es 0 ls := by simp [Ro.check, hv]
  have hval := Si.valid_iff.1 hv
  have HCK := Nu.hid hck
  have HVAL := Nu.hid hval
  have hlb := hval.hi
  have HR := Nu.hid (show RdAt w1 w.heap.size p gd gs ls.length ao ca es (fun _ => false) from ⟨hr.blk, hr.deg, hr.std, ⟨by have := hr.lo.1; simp at this; omega, by have := hr.lo.2.1; simp at this; omega, by have := hr.lo.2.2; simp at this; omega⟩, hr.ne⟩)
  clear hr hv hck hval
  go_wp2
  go_loopw [15] (fun c wr => ∃ (k : Nat) (f : Nat → Bool) (D : List Int), k ≤ ls.length ∧ c = .int .i64 (k : Int) ∧ Ro.chk es 0 ls = Ro.chk es k (ls.drop k) ∧ Ro.Sd es f k D [] ∧ RdAt wr w.heap.size p gd gs ls.length ao ca es f ∧ Below w.heap.size w wr) (fun c _ => ls.length - (intOf c).toNat)
  case atStart => exact ⟨0, _, [], Nat.zero_le _, rfl, rfl, Ro.Sd.start es, HR.out, HB1.out⟩
  case round =>
    obtain ⟨k, f, D, hk, rfl, hch, hsd, hr, hb⟩ := hrel
    clear HR
    have HCH := Nu.hid hch
    have HSD := Nu.hid hsd
    have HR := Nu.hid hr
    have HB := Nu.hid hb
    clear hch hsd hr hb
    by_cases hlt : k < ls.length
    · have hlti : (k : Int) < (ls.length : Int) := by omega
      have hk0 : (0 : Int) ≤ (k : Int) := by omega
      obtain ⟨l, hlk⟩ : ∃ l, ls[k]? = some l := ⟨_, List.getElem?_eq_getElem hlt⟩
      obtain ⟨b, o, A, C, rfl, hc, hL, hln⟩ := HX.out k l hlk
      have hbl : b < w.heap.size := block_lt_of_cell hc
      have hcr := (HB.out.cell (p := ⟨b, o + k, none⟩) hbl).trans hc
      have HL := Nu.hid hL
      have HLK := Nu.hid hlk
      have hln1 := hln.1
      clear hc hL hlk hln
      go_wp2
      go_loopw [22] (fun c wr => ∃ (i : Nat) (f : Nat → Bool), i ≤ l.length ∧ c = .int .i64 (i : Int) ∧ Ro.elt es k [] l = Ro.elt es k (l.take i) (l.drop i) ∧ Ro.Sd es f k D (l.take i) ∧ RdAt wr w.heap.size p gd gs ls.length ao ca es f ∧ Below w.heap.size w wr) (fun c _ => l.length - (intOf c).toNat)
      case atStart => exact ⟨0, f, Nat.zero_le _, rfl, rfl, HSD.out, HR.out, HB.out⟩
      case round =>
        clear HR HB HSD hcr
        obtain ⟨i, f, hi, rfl, hel, hsd, hr, hb⟩ := hrel
        have HEL := Nu.hid hel
        have HSD := Nu.hid hsd
        have HR := Nu.hid hr
        have HB := Nu.hid hb
        clear hel hsd hr hb
        by_cases hil : i < l.length
        · have hili : (i : Int) < (l.length : Int) := by omega
          have hi0 : (0 : Int) ≤ (i : Int) := by omega
          obtain ⟨h, hh⟩ : ∃ h, l[i]? = some h := ⟨_, List.getElem?_eq_getElem hil⟩
          obtain ⟨lb, lo', rfl, lc⟩ := HL.out.elem hh
          have hlbl : lb < w.heap.size := block_lt_of_cell lc
          have hlc := (HB.out.cell (p := ⟨lb, lo' + i, none⟩) hlbl).trans lc
          have HST := Nu.hid (stand_any w.heap.size p gd gs ls.length ao ca es f k h wr HR.out (HE.out.later HB.out) HVAL.out)
          have HH := Nu.hid hh
          clear hh lc
          go_wp2_with (go_at_call 71; refine HST.out.mono ?_; refine Hid.out ?_)
          refine Nu.hid ?_
          rintro e w2 ⟨hw2, hp⟩
          have hb2 := hw2.below HB.out.size (B := w.heap.size) (fun k hk => by rw [hk]; exact HR.out.lo.2.2)
          have HB2 := Nu.hid (HB.out.trans hb2)
          clear hw2
          clear hb2
          rcases hp with ⟨hlv, rfl⟩ | ⟨hlv, hf, rfl⟩ | ⟨hlv, hf, rfl, hr2⟩
          · refine ⟨rfl, HalvesPost.bad HB2.out ?_ (by decide)⟩
            rw [HCK.out, HCH.out, Ro.drop_cons HLK.out]
            exact Ro.chk_bad (Ro.vtx_elt (by rw [HEL.out, Ro.drop_cons HH.out, Ro.elt_half hlv]) (by decide)) (by decide)
          · obtain ⟨j, rfl, -, -⟩ := Ro.lv_nat hlv
            refine ⟨rfl, HalvesPost.bad HB2.out ?_ (by decide)⟩
            rw [HCK.out, HCH.out, Ro.drop_cons HLK.out]
            exact Ro.chk_bad (Ro.vtx_elt (by rw [HEL.out, Ro.drop_cons HH.out, Ro.elt_twice hlv ((HSD.out.twice hlv).1 hf)]) (by decide)) (by decide)
          · obtain ⟨j, rfl, -, -⟩ := Ro.lv_nat hlv
            have HEL2 := Nu.hid (show Ro.elt es k [] l = Ro.elt es k (l.take (i + 1)) (l.drop (i + 1)) by
              rw [HEL.out, Ro.drop_cons HH.out, Ro.elt_on hlv (fun h => by have h2 := (HSD.out.twice hlv).2 h; rw [Int.toNat_natCast, h2] at hf; cases hf), Ro.take_snoc' HH.out])
            have HSD2 := Nu.hid (show Ro.Sd es (Co.updB f j true) k D (l.take (i + 1)) by rw [Ro.take_snoc' HH.out]; exact HSD.out.put hlv)
            have HR2 := Nu.hid hr2
            clear hlv hf hr2
            go_wp2
            go_roundw
            case rel => exact ⟨i + 1, _, by omega, by go_num, HEL2.out, HSD2.out, HR2.out, HB2.out⟩
            case measure => simp [intOf]; omega
        · have hili : ¬ (i : Int) < (l.length : Int) := by omega
          obtain rfl : i = l.length := by omega
          have HEN := Nu.hid (rend_any w.heap.size p gd gs ls.length ao ca es f k l.length wr HR.out HVAL.out hlt)
          have HEL0 := Nu.hid (show Ro.elt es k [] l = 0 by rw [HEL.out]; simp [Ro.elt])
          go_wp2_with (go_at_call 72; refine HEN.out.mono ?_; refine Hid.out ?_)
          refine Nu.hid ?_
          rintro e w2 ⟨hw2, hp⟩
          obtain rfl := hw2.symm
          rcases hp with ⟨hd, rfl⟩ | ⟨hd, rfl⟩
          · refine ⟨rfl, HalvesPost.bad HB.out ?_ (by decide)⟩
            rw [HCK.out, HCH.out, Ro.drop_cons HLK.out]
            exact Ro.chk_bad (Ro.vtx_missing HEL0.out hd) (by decide)
          · have HCH2 := Nu.hid (show Ro.chk es 0 ls = Ro.chk es (k + 1) (ls.drop (k + 1)) by
              rw [HCH.out, Ro.drop_cons HLK.out, Ro.chk_on (Ro.vtx_ok HEL0.out hd)])
            have HSD2 := Nu.hid (by have := HSD.out.next; exact this)
            clear hd
            go_wp2
            go_roundw
            case rel => exact ⟨k + 1, f, _, by omega, by go_num, HCH2.out, HSD2.out, HR.out, HB.out⟩
            case measure => simp [intOf]; omega
    · have hlti : ¬ (k : Int) < (ls.length : Int) := by omega
      obtain rfl : k = ls.length := by omega
      go_wp2
      go_end0
      refine ⟨HB.out, .inl ⟨?_, rfl⟩⟩
      rw [HCK.out, HCH.out]
      simp [Ro.chk]

end Go.Proofs.Ytfkmldopfhdbkaa

/-
  What is given up with is caught.
-/
namespace Go.Proofs.Ytfkmldopfhdbkaa
open Go.RowKit Go.Sort

set_option maxHeartbeats 1000000 in
theorem rcatch_idle (p : Addr) (w : World) :
    CallsD Try.prog 69 #[.pointer (some p)] .returning w fun e u' w' => e = .returned (.tuple #[]) ∧ u' = .returning ∧ w' = w := by
  refine callsD_of_wpS Try.func69 rfl fun c₀ cs hu => ?_
  apply wpS_seq
  apply wpS_region
  simp [wpOpsS, go_sem, recoverD, hu, Try.ntmps69, Exit.thenS]
  refine wpS_of_wp ?_
  go_wp2
  cases c₀
  simp_all [bodyPostS, results, Try.results69]

/-- The fault lies in block b. -/
def FltAt (w : World) (b : Nat) (v c : Int) : Prop := w.heap[b]? = some (.cells #[.int .i64 v, .int .i64 c] 88 (0, 0))

/-- It is laid anew. -/
def putF (w : World) (b : Nat) (v c : Int) : World := (w.setCell ⟨b, 0, none⟩ (.int .i64 v)).setCell ⟨b, 1, none⟩ (.int .i64 c)

theorem FltAt.put {w : World} {b : Nat} {v c : Int} (h : FltAt w b v c) (v' c' : Int) : FltAt (putF w b v' c') b v' c' := by
  unfold FltAt putF at *
  rw [heap_setCell_same _ b 1 _ _ _ (heap_setCell_same w b 0 _ _ _ h)]
  rfl

theorem putF_other (w : World) {b k : Nat} (v c : Int) (h : k ≠ b) : (putF w b v c).heap[k]? = w.heap[k]? := by
  unfold putF
  rw [heap_setCell_other _ ⟨b, 1, none⟩ k _ h, heap_setCell_other _ ⟨b, 0, none⟩ k _ h]

theorem putF_size (w : World) (b : Nat) (v c : Int) : (putF w b v c).heap.size = w.heap.size := by simp [putF]

theorem putF_wrote (w : World) (b : Nat) (v c : Int) : Wrote (fun k => k = b) w (putF w b v c) :=
  ⟨rfl, rfl, rfl, by rw [putF_size]; exact Nat.le_refl _, fun k _ hk => putF_other w v c hk⟩

set_option maxRecDepth 100000 in
set_option maxHeartbeats 1000000 in
theorem rcatch_fault (b : Nat) (v0 c0 : Int) (v : Nat) (c : Int) (w : World) (hr : FltAt w b v0 c0) :
    CallsD Try.prog 69 #[.pointer (some ⟨b, 0, none⟩)] (.panicking [{ v := rfaultV v c, recovered := false }]) w fun e u' w' =>
      e = .returned (.tuple #[]) ∧ u' = .panicking [{ v := rfaultV v c, recovered := true }] ∧ FltAt w' b (v : Int) c ∧ Wrote (fun k => k = b) w w' := by
  obtain ⟨d0, d1, d2⟩ := pair_cells hr
  have hbl := lt_of_block hr
  have hta : ∀ (x : Value) (w : World), (Instr.typeAssert (.iface 88 x) 20 88 true).run Try.prog w = .ok (.tuple #[x, .bool true]) w := fun _ _ => by kernel_rfl
  have hnil : ∀ (x : Value) (w : World), (binOp .eql 20 (.iface 88 x) .nilIface).run Try.prog w = .ok (.bool false) w := fun _ _ => by kernel_rfl
  refine callsD_of_wpS Try.func69 rfl fun c₀ cs hu => ?_
  unfold rfaultV at hu ⊢
  apply wpS_seq
  apply wpS_region
  simp [wpOpsS, go_sem, recoverD, hu, Try.ntmps69, Exit.thenS, Array.replicate]
  refine wpS_of_wp ?_
  have HR := Nu.hid hr
  clear hr
  go_wp2
  refine ⟨rfl, _, rfl, .tuple #[], by simp [results, Try.results69], rfl, rfl, ?_, (putF_wrote w b v c).alloc _⟩
  unfold FltAt
  rw [Below.heap_alloc _ _ _ (by simpa using hbl)]
  exact HR.out.put (v : Int) c

/-- What caught answers: nothing wrong (the reading led to W1), or what the reading gave up with. -/
def CaughtPost (b : Nat) (K0 : World → Prop) (K1 : Nat → Int → World → Prop) (e : Ending) (w' : World) : Prop :=
  ∃ W1, ((K0 W1 ∧ e = .returned (.agg #[.int .i64 0, .int .i64 0])) ∨ ∃ v c, K1 v c W1 ∧ e = .returned (.agg #[.int .i64 (v : Nat), .int .i64 c])) ∧ Wrote (fun k => k = b) W1 w'

theorem results_flt (tmps : Array Value) (W : World) (b : Nat) (v c : Int) (h2 : tmps.getD 2 undef = .pointer (some ⟨b, 0, none⟩)) (hr : FltAt W b v c) :
    (results Try.f54 tmps).run Try.prog W = .ok (.agg #[.int .i64 v, .int .i64 c]) W :=
  results_cell_row (p := 2) (ty := 88) Try.results54 tmps W b 88 _ (0, 0) _ h2 hr Try.underlying88 rfl (by kernel_rfl)

set_option maxRecDepth 100000 in
set_option maxHeartbeats 2000000 in
theorem caught_any (kf : Nat) (bs : Array Value) (K0 : World → Prop) (K1 : Nat → Int → World → Prop) (w : World)
    (hent : ∀ (args : Array Value) (w : World), (callFunc kf args).run Try.prog w = .ok (.enter kf args) w)
    (hcall : Calls Try.prog kf bs (w.alloc (.cells #[.int .i64 0, .int .i64 0] 88)) fun e w' => FltAt w' w.heap.size 0 0 ∧ ((e = .returned (.tuple #[]) ∧ K0 w') ∨ ∃ v c, e = .panicked [{ v := rfaultV v c, recovered := false }] ∧ K1 v c w')) :
    Calls Try.prog 54 #[.func (.func kf) #[] bs] w (CaughtPost w.heap.size K0 K1) := by
  have hmf : ∀ (fn : Fn) (first cap : Array Value) (w : World), (Instr.makeFunc fn first cap).run Try.prog w = .ok (.func fn first cap) w := fun _ _ _ _ => rfl
  have HC := Nu.hid hcall
  clear hcall
  go_enter_defers Try.func54, Try.ntmps54
  go_wp2_with (go_at_fn kf; (try simp only [Array.empty_append]); refine HC.out.mono ?_; refine Hid.out ?_)
  refine Nu.hid ?_
  rintro e w1 ⟨hf, hp⟩
  rcases hp with ⟨rfl, hk⟩ | ⟨v, c, rfl, hk⟩
  · obtain ⟨d0, d1, d2⟩ := pair_cells hf
    have HF := Nu.hid hf
    have HK := Nu.hid hk
    clear hf hk
    go_wp2
    refine leaves_cons (f := 69) (args := #[.pointer (some ⟨w.heap.size, 0, none⟩)]) (by simp) (by simp [go_sem]) ?_
    refine (rcatch_idle _ _).mono ?_
    rintro e u' w3 ⟨rfl, rfl, rfl⟩
    exact ⟨_, results_flt _ _ w.heap.size _ _ rfl (HF.out.put 0 0), w1, .inl ⟨HK.out, rfl⟩, putF_wrote _ _ _ _⟩
  · refine leaves_cons (f := 69) (args := #[.pointer (some ⟨w.heap.size, 0, none⟩)]) (by simp) (by simp [go_sem]) ?_
    refine (rcatch_fault w.heap.size _ _ v c w1 hf).mono ?_
    rintro e u' w3 ⟨rfl, rfl, hres3, hb3⟩
    exact ⟨_, results_flt _ _ w.heap.size _ _ rfl hres3, w1, .inr ⟨v, c, hk, rfl⟩, hb3⟩

end Go.Proofs.Ytfkmldopfhdbkaa

/-
  Check, of any graph and lists.
-/
namespace Go.Proofs.Ytfkmldopfhdbkaa
open Go.RowKit Go.Sort

set_option maxRecDepth 100000 in
set_option maxHeartbeats 2000000 in
theorem check1_any (n : Int) (ao : Option Addr) (ca : Nat) (es : List (Int × Int)) (xo : Option Addr) (xc : Nat) (ls : List (List Int)) (b : Nat) (w : World) (he : EdgesAt w ao es) (hl : es.length ≤ 4611686018427387904) (hx : RwsAt w xo ls)
    (hg : w.heap[b]? = some (.cells #[.int .i64 n, .slice ao es.length ca] 24 (0, 0))) (hr : w.heap[b + 1]? = some (.cells #[.slice xo ls.length xc] 26 (0, 0))) :
    Calls Try.prog 55 #[.pointer (some ⟨b, 0, none⟩), .pointer (some ⟨b + 1, 0, none⟩)] w (HalvesPost n es ls w) := by
  obtain ⟨g0, g1, -⟩ := pair_cells hg
  have r0 := cell_of_one hr
  have HH := Nu.hid (readHalves_any n ao ca es xo xc ls w he hl hx)
  unfold graphVal at HH
  clear he hx hg hr
  go_enter Try.func55, Try.ntmps55
  go_wp2_with (go_at_call 56; refine HH.out.mono ?_; refine Hid.out ?_)
  refine Nu.hid ?_
  rintro e w1 ⟨hb, hp⟩
  rcases hp with ⟨hc, rfl⟩ | ⟨hc, rfl⟩
  · have HB := Nu.hid hb
    have HC := Nu.hid hc
    clear hb hc
    go_wp2
    go_end0
    exact ⟨HB.out, .inl ⟨HC.out, rfl⟩⟩
  · exact ⟨rfl, hb, .inr ⟨hc, rfl⟩⟩

theorem ck1_enters : ∀ (args : Array Value) (w : World), (callFunc 55 args).run Try.prog w = .ok (.enter 55 args) w := enters_of Try.func55 (by kernel_rfl) rfl

/-- What Check answers. -/
def CkPost (n : Int) (es : List (Int × Int)) (ls : List (List Int)) (w : World) (e : Ending) (w' : World) : Prop :=
  e = .returned (.tuple #[.int .i64 ((Ro.check n es ls).1 : Int), .int .i64 (Ro.check n es ls).2]) ∧ Below w.heap.size w w'

set_option maxRecDepth 100000 in
set_option maxHeartbeats 4000000 in
theorem rcheck_any (n : Int) (ao : Option Addr) (ca : Nat) (es : List (Int × Int)) (xo : Option Addr) (xc : Nat) (ls : List (List Int)) (w : World) (he : EdgesAt w ao es) (hl : es.length ≤ 4611686018427387904) (hx : RwsAt w xo ls) :
    Calls Try.prog 38 #[graphVal n ao es.length ca, .slice xo ls.length xc] w (CkPost n es ls w) := by
  have hmf : ∀ (fn : Fn) (first cap : Array Value) (w : World), (Instr.makeFunc fn first cap).run Try.prog w = .ok (.func fn first cap) w := fun _ _ _ _ => rfl
  obtain ⟨W0, hW0⟩ : ∃ W, W = (w.alloc (.cells #[.int .i64 n, .slice ao es.length ca] 24)).alloc (.cells #[.slice xo ls.length xc] 26) := ⟨_, rfl⟩
  have hb0 : Below w.heap.size w W0 := by rw [hW0]; exact ((Below.refl _ _).alloc (Nat.le_refl _) _).alloc (by simp) _
  have hs0 : W0.heap.size = w.heap.size + 2 := by rw [hW0]; simp
  have hg : W0.heap[w.heap.size]? = some (.cells #[.int .i64 n, .slice ao es.length ca] 24 (0, 0)) := by
    rw [hW0, Below.heap_alloc _ _ _ (by simp)]
    exact heap_alloc_new w _
  have hr : W0.heap[w.heap.size + 1]? = some (.cells #[.slice xo ls.length xc] 26 (0, 0)) := by
    rw [hW0]
    exact alloc_at (by simp)
  have hb1 : Below W0.heap.size W0 (W0.alloc (.cells #[.int .i64 0, .int .i64 0] 88)) := (Below.refl _ _).alloc (Nat.le_refl _) _
  have hc1 := check1_any n ao ca es xo xc ls w.heap.size (W0.alloc (.cells #[.int .i64 0, .int .i64 0] 88)) ((he.later hb0).later hb1) hl ((hx.later hb0).later hb1) ((hb1.block _ (by omega)).trans hg) ((hb1.block _ (by omega)).trans hr)
  have hca := caught_any 55 #[.pointer (some ⟨w.heap.size, 0, none⟩), .pointer (some ⟨w.heap.size + 1, 0, none⟩)] (fun W => (Ro.check n es ls).2 = 0 ∧ (Ro.check n es ls).1 = 0 ∧ Below W0.heap.size W0 W) (fun v c W => v = (Ro.check n es ls).1 ∧ c = (Ro.check n es ls).2 ∧ Below W0.heap.size W0 W) W0 ck1_enters
    (hc1.mono (by
      rintro e w2 ⟨hb2, hp⟩
      refine ⟨(hb2.block _ (by simp)).trans (heap_alloc_new W0 _), ?_⟩
      have hb3 := hb1.trans (hb2.mono hb1.size)
      rcases hp with ⟨h0, rfl⟩ | ⟨h0, rfl⟩
      · exact .inl ⟨rfl, h0, Ro.check_zero h0, hb3⟩
      · exact .inr ⟨_, _, rfl, rfl, rfl, hb3⟩))
  have HCA := Nu.hid hca
  have HB0 := Nu.hid hb0
  have HS0 := Nu.hid hs0
  unfold graphVal
  clear he hx hg hr hb1 hc1 hca hb0 hs0
  rw [hW0] at HCA
  have HW := Nu.hid hW0
  clear hW0
  go_enter Try.func38, Try.ntmps38
  go_wp2_with (go_at_call 54; refine HCA.out.mono ?_; refine Hid.out ?_)
  refine Nu.hid ?_
  rintro e w1 ⟨W1, hp, hw⟩
  have hWe := HW.out
  rw [← hWe] at hp hw
  have hfin : ∃ v c, v = (Ro.check n es ls).1 ∧ c = (Ro.check n es ls).2 ∧ Below W0.heap.size W0 W1 ∧ e = .returned (.agg #[.int .i64 ((v : Nat) : Int), .int .i64 c]) := by
    rcases hp with ⟨⟨h0, h1, hb⟩, rfl⟩ | ⟨v, c, ⟨h0, h1, hb⟩, rfl⟩
    · exact ⟨0, 0, h1.symm, h0.symm, hb, rfl⟩
    · exact ⟨v, c, h0, h1, hb, rfl⟩
  obtain ⟨v, c, hv, hc, hb, rfl⟩ := hfin
  have hbw : Below w.heap.size w w1 := by
    have h1 := HB0.out.trans (hb.mono HB0.out.size)
    refine h1.trans (hw.below h1.size fun k hk => ?_)
    rw [hk, HS0.out]
    omega
  have HV := Nu.hid hv
  have HC := Nu.hid hc
  have HBW := Nu.hid hbw
  clear hp hw hb hbw hv hc hWe
  go_wp2
  go_region
  go_wp2
  go_ret2
  have hv := HV.out
  have hc := HC.out
  subst hv
  subst hc
  exact ⟨rfl, (HBW.out.alloc HBW.out.size _).drew⟩

end Go.Proofs.Ytfkmldopfhdbkaa

/-
  What Next and Around answer.
-/
namespace Go.Proofs.Ytfkmldopfhdbkaa
open Go.RowKit Go.Sort

/-- What Next answers. -/
def NextP (n : Int) (es : List (Int × Int)) (ls : List (List Int)) (w : World) (e : Ending) (w' : World) : Prop :=
  Below w.heap.size w w' ∧ (((Ro.check n es ls).2 ≠ 0 ∧ e = .returned (.tuple #[.slice none 0 0, .int .i64 (Ro.check n es ls).2])) ∨
    ((Ro.check n es ls).2 = 0 ∧ ∃ g, e = .returned (.tuple #[.slice (some ⟨g, 0, none⟩) (2 * es.length) (2 * es.length), .int .i64 0]) ∧ w.heap.size ≤ g ∧ IntsBlk w' g (Ro.nextL es ls)))

end Go.Proofs.Ytfkmldopfhdbkaa
