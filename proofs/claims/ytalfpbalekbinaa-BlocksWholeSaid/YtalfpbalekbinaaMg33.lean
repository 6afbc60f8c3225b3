import Derived.Test.YtalfpbalekbinaaMg32
import Derived.Test.YtalfpbalekbinaaMg30
import Derived.Deep.RegionHeld3
import Derived.Test.YtalfpbalekbinaaMg20
/-
  The walk gives a depth-first forest, pure: step by step, and at the end.
-/
namespace Go.Proofs.Ytalfpbalekbinaa
namespace Df
section
variable {n r : Nat} {es : List (Int × Int)} {s s' : St} {W : List Int}

theorem side_mark {h k : Nat} : side n es (s.mark h) k = side n es s k := side_ext (s := s) (s' := s.mark h) k (fun _ _ => ⟨rfl, rfl⟩)

/-- A half-edge is walked to a new vertex. -/
theorem Inv.go {v h : Nat} (hval : Si.Val n es) (b : Bd n es r s) (i : Inv n es ((v : Int) :: W) s) (hl : h < 2 * es.length) (hf : Cs.fr es h = v) (hw : s.dir (h / 2) = -1) (hv : s.height (Cs.to es h) = -1) : Inv n es ((Cs.to es h : Int) :: (v : Int) :: W) (s.go es h) := by
  have hx := mark_ext b hl hw
  obtain ⟨hfn, ht⟩ := Cs.half_lt hval hl
  have bm := b.mark hl hw
  have hr : s.height v ≠ -1 := by
    obtain ⟨u, e, _, h2⟩ := i.rd v List.mem_cons_self
    obtain rfl : v = u := by omega
    exact h2
  have hy : s.height (Cs.fr es h) + 1 ≠ -1 := by
    have := (b.hh _ hfn).1
    omega
  have hv' : (s.mark h).height (Cs.to es h) = -1 := hv
  have hx2 := reach_ext bm ht hv' (h : Int) (s.height (Cs.fr es h) + 1)
  have hpar : at_ (s.go es h).par (Cs.to es h) = (h : Int) := by
    show at_ (s.par.set (Cs.to es h) (h : Int)) (Cs.to es h) = _
    rw [at_set (by rw [b.lp]; exact ht), if_pos rfl]
  have hnt : Cs.fr es h ≠ Cs.to es h := by
    intro e
    rw [← e, hf] at hv
    exact hr hv
  have hdir : (s.go es h).dir (h / 2) = (h : Int) := by
    show (s.mark h).dir (h / 2) = _
    rw [dir_mark b hl, if_pos rfl]
  have hht : (s.go es h).height (Cs.to es h) = s.height (Cs.fr es h) + 1 := by
    show ((s.mark h).reach (Cs.to es h) (h : Int) (s.height (Cs.fr es h) + 1)).height (Cs.to es h) = _
    rw [height_reach bm ht, if_pos rfl]
  have hhf : (s.go es h).height (Cs.fr es h) = s.height (Cs.fr es h) := by
    show ((s.mark h).reach (Cs.to es h) (h : Int) (s.height (Cs.fr es h) + 1)).height (Cs.fr es h) = _
    rw [height_reach bm ht, if_neg hnt]
    rfl
  refine Inv.new (s := s.mark h) (x := (h : Int)) (y := s.height (Cs.fr es h) + 1) bm ht hv' hy i.once i.mem (fun u hu hru => Hang2.ext hx hru (i.hang u hu hru)) ?_ (hx.way i.rd i.way) (fun e he hd => ?_) (fun u hu hru hn g hg hfg => hx.walked (i.fin u hu hru hn g hg hfg)) ?_ ?_
  · obtain ⟨X, B, h1, h2, h3⟩ := i.side
    exact ⟨X, B, side_mark.trans h1, h2, h3⟩
  · by_cases e1 : e = h / 2
    · subst e1
      exact ⟨h, by omega, hdir, .inl ⟨by rw [show ((s.mark h).reach (Cs.to es h) (h : Int) (s.height (Cs.fr es h) + 1)).height (Cs.to es h) = _ from hht]; exact hy, hpar⟩⟩
    · rw [dir_mark b hl, if_neg e1] at hd
      exact ((i.edge e he hd).ext hx).ext hx2
  · exact .inr ⟨h, hl, hpar, rfl, hdir, by rw [show ((s.mark h).reach (Cs.to es h) (h : Int) (s.height (Cs.fr es h) + 1)).height (Cs.fr es h) = _ from hhf, hf]; exact hr, by rw [show ((s.mark h).reach (Cs.to es h) (h : Int) (s.height (Cs.fr es h) + 1)).height (Cs.to es h) = _ from hht, show ((s.mark h).reach (Cs.to es h) (h : Int) (s.height (Cs.fr es h) + 1)).height (Cs.fr es h) = _ from hhf]⟩
  · show Cs.frI es (at_ (s.go es h).par ((Cs.to es h : Int)).toNat) = _
    rw [Int.toNat_natCast, hpar, Cs.frI_in hl, hf]
    rfl

/-- A root. -/
theorem Inv.root {v : Nat} (b : Bd n es r s) (i : Inv n es [] s) (hv : v < n) (hu : s.height v = -1) : Inv n es [(v : Int)] (s.reach v (-1) 0) := by
  have hx := reach_ext b hv hu (-1) 0
  have hpar : at_ (s.reach v (-1) 0).par v = -1 := by
    show at_ (s.par.set v (-1)) v = _
    rw [at_set (by rw [b.lp]; exact hv), if_pos rfl]
  refine Inv.new b hv hu (by omega) i.once i.mem i.hang i.side i.way (fun e he hd => (i.edge e he hd).ext hx) i.fin (.inl ⟨hpar, by rw [height_reach b hv, if_pos rfl]⟩) ?_
  show Cs.frI es (at_ (s.reach v (-1) 0).par ((v : Int)).toNat) = _
  rw [Int.toNat_natCast, hpar]
  exact Cs.frI_no (by omega)

/-- The vertex at which it stands is done. -/
theorem Inv.finish {v : Nat} (i : Inv n es ((v : Int) :: W) s) (hd : ∀ h, h < 2 * es.length → Cs.fr es h = v → s.dir (h / 2) ≠ -1) : Inv n es W s := by
  refine ⟨i.once, i.mem, i.hang, ?_, i.way.2.2, i.edge, fun u hu hr hn h hh hf => ?_⟩
  · obtain ⟨X, B, h1, h2, h3⟩ := i.side
    refine ⟨X ++ [(v : Int)], B, ?_, ?_, ?_⟩ <;> rw [List.append_assoc] <;> assumption
  · by_cases e : u = v
    · exact hd h hh (by rw [hf, e])
    · exact i.fin u hu hr (fun hm => (List.mem_cons.1 hm).elim (fun e1 => e (by omega)) hn) h hh hf

theorem out_all {v h : Nat} (hh : h < 2 * es.length) (hf : Cs.fr es h = v) : h ∈ Cs.out es v (2 * es.length) := List.mem_of_getElem? (Cs.out_at hh hf)
theorem out_fr {v h : Nat} (hh : h ∈ Cs.out es v (2 * es.length)) : h < 2 * es.length ∧ Cs.fr es h = v := by
  obtain ⟨j, hj⟩ := List.getElem?_of_mem hh
  exact ⟨(Cs.out_of hj).1, (Cs.out_of hj).2.1⟩

/-- The walk of the half-edges of one vertex keeps it, and walks them all. -/
theorem R.inv {k : Nat} {L : List Nat} (hval : Si.Val n es) (h : R es k s L s') : ∀ (v : Nat) (W : List Int), Bd n es r s → Inv n es ((v : Int) :: W) s → (∀ x ∈ L, x < 2 * es.length ∧ Cs.fr es x = v) → (∀ x, x < 2 * es.length → Cs.fr es x = v → x ∈ L ∨ s.dir (x / 2) ≠ -1) →
    Inv n es ((v : Int) :: W) s' ∧ Ext s s' ∧ ∀ x, x < 2 * es.length → Cs.fr es x = v → s'.dir (x / 2) ≠ -1 := by
  induction h with
  | nil s =>
    intro v W b i hL hF
    refine ⟨i, Ext.refl s, fun x hx hf => ?_⟩
    rcases hF x hx hf with h | h
    · simp at h
    · exact h
  | @old k s s' h L hw hr ih =>
    intro v W b i hL hF
    refine ih v W b i (fun x hx => hL x (List.mem_cons_of_mem _ hx)) (fun x hx hf => ?_)
    rcases hF x hx hf with h1 | h1
    · rcases List.mem_cons.1 h1 with rfl | h1
      · exact .inr hw
      · exact .inl h1
    · exact .inr h1
  | @back k s s' h L hw hv hr ih =>
    intro v W b i hL hF
    obtain ⟨hh, hf⟩ := hL h List.mem_cons_self
    have hx := mark_ext b hh hw
    obtain ⟨h1, h2, h3⟩ := ih v W (b.mark hh hw) (i.back hval b hh hf hw hv) (fun x hx => hL x (List.mem_cons_of_mem _ hx)) (fun x hxl hfx => by
      rcases hF x hxl hfx with h1 | h1
      · rcases List.mem_cons.1 h1 with rfl | h1
        · exact .inr (by rw [dir_mark b hh, if_pos rfl]; omega)
        · exact .inl h1
      · exact .inr (hx.walked h1))
    exact ⟨h1, hx.trans h2, h3⟩
  | @tree j k s s1 s' h L hw hv hr1 hr2 ih1 ih2 =>
    intro v W b i hL hF
    obtain ⟨hh, hf⟩ := hL h List.mem_cons_self
    have bg := b.go hval hh hw
    have hx : Ext s (s.go es h) := (mark_ext b hh hw).trans (reach_ext (b.mark hh hw) (Cs.half_lt hval hh).2 hv _ _)
    obtain ⟨i1, x1, d1⟩ := ih1 (Cs.to es h) ((v : Int) :: W) bg (i.go hval b hh hf hw hv) (fun x hx => out_fr hx) (fun x hxl hfx => .inl (out_all hxl hfx))
    have hx1 := hx.trans x1
    obtain ⟨h1, h2, h3⟩ := ih2 v W (hr1.bd hval out_half bg) (i1.finish d1) (fun x hx => hL x (List.mem_cons_of_mem _ hx)) (fun x hxl hfx => by
      rcases hF x hxl hfx with h1 | h1
      · rcases List.mem_cons.1 h1 with rfl | h1
        · refine .inr ?_
          have : (s.go es x).dir (x / 2) = (x : Int) := by
            show (s.mark x).dir (x / 2) = _
            rw [dir_mark b hh, if_pos rfl]
          rw [x1.dir _ (by rw [this]; omega), this]
          omega
        · exact .inl h1
      · exact .inr (hx1.walked h1))
    exact ⟨h1, hx1.trans h2, h3⟩

theorem getD_rep (m v : Nat) : (List.replicate m (-1 : Int)).getD v (-1) = -1 := by
  rw [List.getD_eq_getElem?_getD, List.getElem?_replicate]
  split <;> rfl

theorem Wk.inv (hval : Si.Val n es) {i : Nat} (h : Wk n es i s) : i ≤ n → Inv n es [] s ∧ ∀ v, v < i → s.height v ≠ -1 := by
  induction h with
  | zero =>
    intro _
    have hh : ∀ v, (St.start n es.length).height v = -1 := fun v => getD_rep n v
    have hd : ∀ e, (St.start n es.length).dir e = -1 := fun e => getD_rep es.length e
    refine ⟨⟨fun i hi => absurd hi (by simp [St.start]), fun v hv => ?_, fun v hv h => absurd (hh v) h, ⟨[], _, rfl, by simp, fun x hx => absurd hx (by simp)⟩, trivial, fun e he h => absurd (hd e) h, fun v hv h => absurd (hh v) h⟩, fun v hv => absurd hv (by omega)⟩
    constructor
    · intro h; simp [St.start] at h
    · exact fun h => absurd (hh v) h
  | @pass i s h hv ih =>
    intro hi
    obtain ⟨h1, h2⟩ := ih (by omega)
    refine ⟨h1, fun v hvi => ?_⟩
    by_cases e : v = i
    · rw [e]; exact hv
    · exact h2 v (by omega)
  | @walk i k s s' h hv hr ih =>
    intro hi
    obtain ⟨h1, h2⟩ := ih (by omega)
    have b := h.bd hval (by omega)
    have hx := reach_ext b (by omega : i < n) hv (-1) 0
    obtain ⟨i1, x1, d1⟩ := hr.inv hval i [] (b.root (by omega)) (h1.root b (by omega) hv) (fun x hx => out_fr hx) (fun x hxl hfx => .inl (out_all hxl hfx))
    refine ⟨i1.finish d1, fun v hvi => ?_⟩
    by_cases e : v = i
    · rw [e]
      refine x1.reached ?_
      rw [height_reach b (by omega), if_pos rfl]
      omega
    · exact (hx.trans x1).reached (h2 v (by omega))

theorem at_get {l : List Int} {i : Nat} (hi : i < l.length) : at_ l i = l[i] := by
  unfold at_
  rw [List.getD_eq_getElem?_getD, List.getElem?_eq_getElem hi]
  rfl

/-- The walk of a valid graph is a depth-first forest of it. -/
theorem Wk.vf (hval : Si.Val n es) (h : Wk n es n s) : VF n es s := by
  obtain ⟨i, hall⟩ := h.inv hval (Nat.le_refl _)
  have b := h.bd hval (Nat.le_refl _)
  have hfew := hval.few
  have hnod : s.ord.Nodup := by
    unfold List.Nodup
    rw [List.pairwise_iff_getElem]
    intro a c ha hc hac
    have := i.once c hc a hac
    rw [at_get ha, at_get hc] at this
    exact this
  have hperm : s.ord.Perm ((List.range n).map Int.ofNat) := by
    rw [List.perm_ext_iff_of_nodup hnod]
    · intro x
      constructor
      · intro hx
        have := b.hd x hx
        exact List.mem_map.2 ⟨x.toNat, List.mem_range.2 (by omega), by simp; omega⟩
      · intro hx
        obtain ⟨v, hv, rfl⟩ := List.mem_map.1 hx
        exact (i.mem v (List.mem_range.1 hv)).2 (hall v (List.mem_range.1 hv))
    · rw [List.nodup_iff_pairwise_ne, List.pairwise_map]
      refine List.Pairwise.imp ?_ List.nodup_range
      intro a c hac e
      exact hac (Int.ofNat.inj e)
  have hlen : s.ord.length = n := by rw [hperm.length_eq]; simp
  refine ⟨⟨b.lp, b.lh, hlen, b.lo⟩, fun a ha => ⟨?_, fun j hj => i.once a (by omega) j hj⟩, fun v hv => ?_, ?_, fun e he => ?_⟩
  · exact b.hd _ (at_mem (by omega))
  · rcases i.hang v hv (hall v hv) with h1 | ⟨x, h1, h2, h3, h4, h5, h6⟩
    · exact .inl h1
    · refine .inr ⟨x, h1, h2, h3, h4, ?_⟩
      have h7 := b.hh _ (Cs.half_lt hval h1).1
      rw [IntKind.wrap_i64]
      show s.height v = _
      rw [h6]
      have e : at_ s.hei (Cs.fr es x) = s.height (Cs.fr es x) := rfl
      rw [e]
      omega
  · obtain ⟨X, B, h1, _, _⟩ := i.side
    rw [hlen] at h1
    exact ⟨_, h1⟩
  · have h2 : 2 * e < 2 * es.length := by omega
    have hf := (Cs.half_lt hval h2).1
    have hd := i.fin _ hf (hall _ hf) (by simp) (2 * e) h2 rfl
    rw [show 2 * e / 2 = e by omega] at hd
    obtain ⟨x, h3, h4, h5⟩ := i.edge e he hd
    refine ⟨x, h3, h4, ?_⟩
    rcases h5 with ⟨_, h6⟩ | ⟨Y, h6, h7, _⟩
    · exact .inl h6
    · exact .inr ⟨Y, h6, h7⟩
end
end Df
end Go.Proofs.Ytalfpbalekbinaa

/-
  part: a graph falls into its blocks.
-/
namespace Go.Proofs.Ytalfpbalekbinaa
open Go.RowKit Go.Sort

/-- What part answers of a valid graph. -/
def PartYes (n : Nat) (es : List (Int × Int)) (w : World) (e : Ending) (w' : World) : Prop :=
  ∃ p av mb lo lc s F D K go, e = .returned (.tuple #[.pointer (some ⟨p, 0, none⟩), .int .i64 0]) ∧ PtIn w' p av mb lo lc (.slice (some ⟨go, 0, none⟩) es.length es.length) n es s F D K ∧ IntsBlk w' go (Bl.nums es.length (Bl.numB (Bl.mB es s))) ∧ w.heap.size ≤ go ∧ Below w.heap.size w w'

theorem FinIn.fresh {w0 : World} {av : Value} {n : Nat} {es : List (Int × Int)} {f : For} {s : Df.St} (h1 : IsAdj w0 av n es) (h2 : Si.Val n es) (h3 : LstF w0 f s) (h4 : Df.VF n es s) :
    FinAt ⟨w0.heap.size + 2, w0.heap.size + 1, w0.heap.size, av, n, es, f, s⟩ w0 ((w0.alloc (.map #[] 0)).alloc (.cells #[av, .slice f.a1 n f.c1, .slice f.a2 n f.c2, .slice f.a3 n f.c3, .slice f.a4 es.length f.c4, .slice none 0 0, .slice none 0 0, .map (some w0.heap.size)] 81)) [] [] [] := by
  have hs : (w0.alloc (.map #[] 0)).heap.size = w0.heap.size + 1 := by simp
  refine ⟨.slice none 0 0, .slice none 0 0, .map [], fun _ => False, ⟨h1, h2, h3, h4, Nat.le_refl _, by show _ ≤ _ + 1; omega, by show w0.heap.size < w0.heap.size + 2; omega, by show _ + 1 < _ + 2; omega, by show w0.heap.size ≠ w0.heap.size + 1; omega⟩, ?_, ?_, ?_, .nil _ _, .nil _ _, .inl rfl, ?_, ?_, ?_, ?_⟩
  · exact ((Below.refl _ _).alloc (Nat.le_refl _) _).alloc (by simp) _
  · show _ + 2 ≤ _
    simp
  · have := heap_alloc_new (w0.alloc (.map #[] 0)) (.cells #[av, .slice f.a1 n f.c1, .slice f.a2 n f.c2, .slice f.a3 n f.c3, .slice f.a4 es.length f.c4, .slice none 0 0, .slice none 0 0, .map (some w0.heap.size)] 81)
    rw [hs] at this
    exact this
  · exact (World.ownsMap_made w0 _ _ _).alloc _
  · intro kl
    exact ⟨fun h => (by cases h), fun ⟨L, hL, _⟩ => (by cases hL)⟩
  · intro L hL
    cases hL
  · intro g hg
    cases hg

theorem FinAt.mp {x : Fx} {w0 w : World} {S : List (Nat × Int)} {Y : List Nat} {F : List (List Nat)} (h : FinAt x w0 w S Y F) : (∃ D, Mp w x.mb F D) ∧ w.cell? ⟨x.p, 7, none⟩ = some (.map (some x.mb)) ∧ Below w0.heap.size w0 w := by
  obtain ⟨sv, yv, D, G, h⟩ := h
  refine ⟨⟨D, h.map, h.keys, fun L hL => ?_⟩, (h.cells (i := 7) rfl).1, h.below⟩
  obtain ⟨g, e, _, _, hi⟩ := h.rows L hL
  exact ⟨g, e, hi⟩

set_option maxRecDepth 100000 in
set_option maxHeartbeats 16000000 in
theorem part_no (n : Int) (ao : Option Addr) (cap : Nat) (es : List (Int × Int)) (w : World) (he : EdgesAt w ao es) (hl : es.length ≤ 4611686018427387904) (hv : Si.valid n es = false) :
    Calls Try.prog 26 #[graphVal n ao es.length cap] w fun e w' => e = .returned (.tuple #[.pointer none, .int .i64 1]) ∧ Below w.heap.size w w' := by
  have hb1 : Below w.heap.size w (w.alloc (.cells #[.int .i64 n, .slice ao es.length cap] 24)) := (Below.refl _ _).alloc (Nat.le_refl _) _
  have HN := Nu.hid ((cnew_any n ao cap es _ (he.later hb1) hl).mono (R' := fun e w' => e = .returned (.tuple #[.pointer none, .int .i64 1]) ∧ Below (w.alloc (.cells #[.int .i64 n, .slice ao es.length cap] 24)).heap.size (w.alloc (.cells #[.int .i64 n, .slice ao es.length cap] 24)) w') (by
    rintro e w' ⟨⟨m, p, _, hval, _⟩ | ⟨_, h1⟩, h2⟩
    · exact absurd (Si.valid_iff.2 hval) (by rw [hv]; decide)
    · exact ⟨h1, h2⟩))
  have HB1 := Nu.hid hb1
  unfold graphVal at HN ⊢
  clear he hb1
  go_enter Try.func26, Try.ntmps26
  go_wp2_with (go_at_call 43; refine HN.out.mono ?_; rintro e w2 ⟨rfl, hb2⟩; have HB2 := Nu.hid (HB1.out.trans (hb2.mono HB1.out.size)); clear hb2)
  go_ret2
  exact ⟨rfl, HB2.out⟩

set_option maxRecDepth 100000 in
set_option maxHeartbeats 16000000 in
theorem part_yes (n : Nat) (ao : Option Addr) (cap : Nat) (es : List (Int × Int)) (w : World) (he : EdgesAt w ao es) (hval : Si.Val n es) :
    Calls Try.prog 26 #[graphVal n ao es.length cap] w (PartYes n es w) := by
  have hfew := hval.few
  have hhi := hval.hi
  have hl : es.length ≤ 4611686018427387904 := by omega
  have hvt := Si.valid_iff.2 hval
  obtain ⟨w1, hw1⟩ : ∃ w1, w1 = w.alloc (.cells #[.int .i64 (n : Int), .slice ao es.length cap] 24) := ⟨_, rfl⟩
  have hb1 : Below w.heap.size w w1 := by rw [hw1]; exact (Below.refl _ _).alloc (Nat.le_refl _) _
  have hG1 : w1.heap[w.heap.size]? = some (.cells #[.int .i64 (n : Int), .slice ao es.length cap] 24 (0, 0)) := by rw [hw1]; exact heap_alloc_new w _
  have HN : Hid (Calls Try.prog 43 #[graphVal n ao es.length cap] w1 fun e w' => ∃ p, e = .returned (.tuple #[.pointer (some ⟨p, 0, none⟩), .int .i64 0]) ∧ IsAdj w' (.pointer (some ⟨p, 0, none⟩)) n es ∧ Below w1.heap.size w1 w') := (cnew_any n ao cap es _ (he.later hb1) hl).mono (by
    rintro e w' ⟨⟨m, p, hm, hval', h1, h2⟩ | ⟨h0, _⟩, h3⟩
    · have : n = m := by omega
      subst this
      exact ⟨p, h1, .inr ⟨_, p, rfl, hval, h2⟩, h3⟩
    · rw [hvt] at h0
      cases h0)
  have HWK : Hid (∀ W, Below w.heap.size w W → Calls Try.prog 44 #[graphVal n ao es.length cap] W fun e w' => ∃ (f : For) (s : Df.St), e = .returned (.tuple #[.agg #[.slice f.a1 n f.c1, .slice f.a2 n f.c2, .slice f.a3 n f.c3, .slice f.a4 es.length f.c4], .int .i64 0]) ∧ LstF w' f s ∧ Df.VF n es s ∧ Below W.heap.size W w') := fun W hW => (dwalk_any n ao cap es W (he.later hW) hl).mono (by
    rintro e w' ⟨v1, v2, v3, v4, s, z, h1, h2, h3 | h3, h4⟩
    · obtain ⟨m, hm, _, hwk, rfl⟩ := h3
      have : n = m := by omega
      subst this
      have hvf := hwk.vf hval
      have hlen := hvf.lens
      obtain ⟨f, e1, e2, e3, e4, hlst⟩ := h2.lst ⟨by rw [hlen.1]; omega, by rw [hlen.2.1]; omega, by rw [hlen.2.2.1]; omega, by rw [hlen.2.2.2]; omega⟩
      rw [hlen.1] at e1
      rw [hlen.2.1] at e2
      rw [hlen.2.2.1] at e3
      rw [hlen.2.2.2] at e4
      exact ⟨f, s, by rw [h1, e1, e2, e3, e4], hlst, hvf, h4⟩
    · rw [hvt] at h3
      cases h3.1)
  have HW1 := Nu.hid hw1
  unfold graphVal at HN HWK ⊢
  have hmm := @run_makeMap Try.prog
  clear he hw1
  go_enter Try.func26, Try.ntmps26
  go_wp2_with (go_at_call 43; rw [← HW1.out]; refine HN.out.mono ?_; rintro e w2 ⟨pa, rfl, hadj, hb2⟩; refine Hid.out ?_)
  refine Nu.hid ?_
  have hB2 : Below w.heap.size w w2 := hb1.trans (hb2.mono hb1.size)
  obtain ⟨x0, x1, -⟩ := pair_cells ((hb2.block _ (lt_of_block hG1)).trans hG1)
  have HADJ := Nu.hid hadj
  have HB2 := Nu.hid hB2
  have HWK2 := Nu.hid (HWK.out w2 hB2)
  clear hb2 hG1 HWK HN hadj hB2 hb1
  go_wp2_with (go_at_call 44; refine HWK2.out.mono ?_; rintro e w3 ⟨f, s, rfl, hlst, hvf, hb3⟩; refine Hid.out ?_)
  refine Nu.hid ?_
  have HADJ3 := Nu.hid (HADJ.out.later hb3)
  have HB3 := Nu.hid (HB2.out.trans (hb3.mono HB2.out.size))
  have HLST := Nu.hid hlst
  have HVF := Nu.hid hvf
  clear hlst hvf hb3 x0 x1 HWK2
  obtain ⟨w4, hw4⟩ : ∃ w4, w4 = w3.alloc (.cells #[.slice f.a1 n f.c1, .slice f.a2 n f.c2, .slice f.a3 n f.c3, .slice f.a4 es.length f.c4] 75) := ⟨_, rfl⟩
  have hb4 : Below w3.heap.size w3 w4 := by rw [hw4]; exact (Below.refl _ _).alloc (Nat.le_refl _) _
  have hs4 : w4.heap.size = w3.heap.size + 1 := by rw [hw4]; simp
  have HFD : Hid (Calls Try.prog 45 #[.pointer (some ⟨w3.heap.size + 1 + 1, 0, none⟩)] ((w4.alloc (.map #[] 0)).alloc (.cells #[.pointer (some ⟨pa, 0, none⟩), .slice f.a1 n f.c1, .slice f.a2 n f.c2, .slice f.a3 n f.c3, .slice f.a4 es.length f.c4, .slice none 0 0, .slice none 0 0, .map (some (w3.heap.size + 1))] 81)) fun e w' => e = .returned (.tuple #[]) ∧ ∃ F D, Mp w' (w3.heap.size + 1) F D ∧ Bl.Parted es s F ∧ w'.cell? ⟨w3.heap.size + 1 + 1, 7, none⟩ = some (.map (some (w3.heap.size + 1))) ∧ Below w4.heap.size w4 w') := by
    have h5 := FinIn.fresh (w0 := w4) (HADJ3.out.later hb4) hval (HLST.out.later hb4) HVF.out
    rw [hs4] at h5
    refine (find_any9 ⟨w3.heap.size + 1 + 2, w3.heap.size + 1 + 1, w3.heap.size + 1, .pointer (some ⟨pa, 0, none⟩), n, es, f, s⟩ w4 _ h5).mono ?_
    rintro e w' ⟨h1, S, Y, F, h2, h3⟩
    obtain ⟨⟨D, q1⟩, q2, q3⟩ := h2.mp
    exact ⟨h1, F, D, q1, h3.parted hval HVF.out, q2, q3⟩
  have HW4 := Nu.hid hw4
  have HB4 := Nu.hid hb4
  have HS4 := Nu.hid hs4
  clear hw4 hb4 hs4
  go_wp2_with (go_at_call 45; rw [← HW4.out]; refine HFD.out.mono ?_; rintro e w6 ⟨rfl, F, D, hmp, hpt, c7, hb6⟩; refine Hid.out ?_)
  refine Nu.hid ?_
  have hF := hpt.few
  have hlt : ∀ L ∈ F, Bl.mn L < 4194304 := fun L hL => by have := hpt.lt hL (Bl.mn_mem (hpt.one L hL).1); omega
  have HKS : Hid (∀ W, Below w6.heap.size w6 W → Calls Try.prog 46 #[.map (some (w3.heap.size + 1))] W fun e w' => ∃ lo lc K, e = .returned (.slice lo (List.length K) lc) ∧ Bl.KeysOf F K ∧ IntsAt w' lo (K.map Nat.cast) ∧ Below W.heap.size W w') := fun W hW => (keys_any9 (w3.heap.size + 1) F D W (hmp.later hW) (by omega) hlt hpt.nodup).mono (by
    rintro e w' ⟨v, K, h1, h2, h3, h4⟩
    obtain ⟨lo, lc, e1, h5, _⟩ := h3.form
    rw [List.length_map] at e1
    exact ⟨lo, lc, K, by rw [h1, e1], h2, h5, h4⟩)
  have HS : Hid (∀ W, Below w6.heap.size w6 W → W.cell? ⟨w3.heap.size + 1 + 1, 7, none⟩ = some (.map (some (w3.heap.size + 1))) ∧ Below w6.heap.size w6 W) := fun W hW => ⟨(hW.cell (p := ⟨w3.heap.size + 1 + 1, 7, none⟩) (block_lt_of_cell c7)).trans c7, hW⟩
  have hbd : Below w6.heap.size w6 w6.drew := (Below.refl _ _).drew
  have HMP := Nu.hid hmp
  have HPT := Nu.hid hpt
  have HB6 := Nu.hid hb6
  have HC7 := Nu.hid c7
  clear hmp hpt c7 hb6 hlt HFD
  go_wp2_with fail
  go_region_held3 (fun X => X.cell? ⟨w3.heap.size + 1 + 1, 7, none⟩ = some (.map (some (w3.heap.size + 1))) ∧ Below w6.heap.size w6 X)
    (exact HS.out _ (by first | assumption | exact hbd | exact hb76.alloc hb76.size _))
    ((go_at_call 46; refine (HKS.out _ (by first | assumption | exact hbd)).mono ?_; rintro e w7 ⟨lo, lc, K, rfl, hK, hat, hb7⟩; have hb76 : Below w6.heap.size w6 w7 := Below.trans (by first | assumption | exact hbd) (hb7.mono (Below.size (by first | assumption | exact hbd)))))
  all_goals
    clear HS HKS hbd hb7
    obtain ⟨w8, hw8⟩ : ∃ w8, w8 = w7.alloc (.cells #[.pointer (some ⟨pa, 0, none⟩), .map (some (w3.heap.size + 1)), .slice lo (List.length K) lc, .slice none 0 0] 58) := ⟨_, rfl⟩
    have hb8 : Below w7.heap.size w7 w8 := by rw [hw8]; exact (Below.refl _ _).alloc (Nat.le_refl _) _
    have hs8 : w8.heap.size = w7.heap.size + 1 := by rw [hw8]; simp
    have hblk8 : w8.heap[w7.heap.size]? = some (.cells #[.pointer (some ⟨pa, 0, none⟩), .map (some (w3.heap.size + 1)), .slice lo (List.length K) lc, .slice none 0 0] 58 (0, 0)) := by rw [hw8]; exact heap_alloc_new w7 _
    have hadj7 : IsAdj w7 (.pointer (some ⟨pa, 0, none⟩)) n es := ((HADJ3.out.later HB4.out).later HB6.out).later hb76
    have hkey := HPT.out.keys hK.1 hK.2
    have hpt7 : PtIn w8 w7.heap.size (.pointer (some ⟨pa, 0, none⟩)) (w3.heap.size + 1) lo lc (.slice none 0 0) n es s F D K := ⟨hblk8, hadj7.later hb8, hval, HVF.out, (HMP.out.later hb76).later hb8, HPT.out, hkey, hat.later hb8⟩
    have HNM := Nu.hid (numbers_any9 w8 hpt7)
    have HEND : Hid (∀ w9, IntsBlk w9 w8.heap.size (Bl.nums es.length (Bl.numB (Bl.mB es s))) → Below w8.heap.size w8 w9 → PartYes n es w (.returned (.tuple #[.pointer (some ⟨w7.heap.size, 0, none⟩), .int .i64 0])) (w9.setCell ⟨w7.heap.size, 3, none⟩ (.slice (some ⟨w8.heap.size, 0, none⟩) es.length es.length)) ∧ w9.cell? ⟨w7.heap.size, 3, none⟩ = some (.slice none 0 0) ∧ w9.frozen? ⟨w7.heap.size, 3, none⟩ = false) := fun w9 hi9 hb9 => by
      have hblk9 : w9.heap[w7.heap.size]? = some (.cells #[.pointer (some ⟨pa, 0, none⟩), .map (some (w3.heap.size + 1)), .slice lo (List.length K) lc, .slice none 0 0] 58 (0, 0)) := (hb9.block _ (by omega)).trans hblk8
      have hbF : Below w7.heap.size w7 (w9.setCell ⟨w7.heap.size, 3, none⟩ (.slice (some ⟨w8.heap.size, 0, none⟩) es.length es.length)) := (hb8.trans (hb9.mono (by omega))).setCell (p := ⟨w7.heap.size, 3, none⟩) (Nat.le_refl _) _
      have hwb : Below w.heap.size w w7 := by
        have h4 : Below w.heap.size w w4 := HB3.out.trans (HB4.out.mono HB3.out.size)
        have h6 : Below w.heap.size w w6 := h4.trans (HB6.out.mono h4.size)
        exact h6.trans (hb76.mono h6.size)
      have hwb' := hwb.size
      refine ⟨⟨_, _, _, _, _, s, F, D, K, w8.heap.size, rfl, ⟨heap_setCell_same w9 w7.heap.size 3 _ _ _ hblk9, hadj7.later hbF, hval, HVF.out, (HMP.out.later hb76).later hbF, HPT.out, hkey, hat.later hbF⟩, ?_, by omega, hwb.trans (hbF.mono hwb')⟩, ?_⟩
      · exact (heap_setCell_other w9 ⟨w7.heap.size, 3, none⟩ w8.heap.size _ (by simp; omega)).trans hi9
      · simp [World.cell?, World.frozen?, hblk9]
    have HW8 := Nu.hid hw8
    clear hw8 hb8 hblk8 hadj7 hkey hpt7 hK hat hb76 HMP HPT HB6 HC7
    have HS8 := Nu.hid hs8
    clear hs8
    go_wp2_with (go_at_call 47; rw [← HW8.out]; refine HNM.out.mono ?_; rintro e w9 ⟨rfl, hi9, hb9⟩; refine Hid.out ?_)
    refine Nu.hid ?_
    obtain ⟨hend, cc, ff⟩ := HEND.out w9 hi9 hb9
    have HE := Nu.hid hend
    clear hend hi9 hb9 HEND HNM
    go_wp2
    go_ret2
    exact HE.out
end Go.Proofs.Ytalfpbalekbinaa

/-
  count; Of; isCut.
-/
namespace Go.Proofs.Ytalfpbalekbinaa
open Go.RowKit Go.Shelf

attribute [local go_sem] Oper.semAt_some

theorem results_cell1 {fn : Func} {p : Tmp} {ty : TypeId} {P : Program} (h : fn.results = #[.cell p ty]) (tmps : Array Value) (w : World) (a : Addr) (v : Value) (hp : tmps.getD p undef = .pointer (some a)) (hc : w.cell? a = some v) (hag : (isAgg ty).run P w = .ok false w) : (results fn tmps).run P w = .ok v w := by
  have hp' : tmps[p]?.getD undef = .pointer (some a) := by simpa using hp
  simp [results, h, go_sem, hp', hc, hag]

section
variable {w : World} {p : Nat} {av : Value} {mb : Nat} {lo : Option Addr} {lc : Nat} {ov : Value} {n : Nat} {es : List (Int × Int)} {s : Df.St} {F : List (List Nat)} {D : DataW Value} {K : List Nat}

set_option maxRecDepth 100000 in
set_option maxHeartbeats 16000000 in
theorem count_any9 (h : PtIn w p av mb lo lc ov n es s F D K) : Calls Try.prog 27 #[.pointer (some ⟨p, 0, none⟩)] w fun e w' => e = .returned (.int .i64 (Bl.cntB (Bl.mB es s) es.length : Int)) ∧ w' = w := by
  have hk := Bl.keys_len h.key
  obtain ⟨-, -, c2, -, -⟩ := h.cells
  rw [hk] at c2
  clear h hk
  go_enter Try.func27, Try.ntmps27
  go_wp2
  go_ret
  exact ⟨rfl, rfl⟩
end

/-- What Of answers of a valid graph. -/
def OfP9 (n : Nat) (es : List (Int × Int)) (w : World) (e : Ending) (w' : World) : Prop :=
  ∃ s go, Df.VF n es s ∧ e = .returned (.tuple #[.slice (some ⟨go, 0, none⟩) es.length es.length, .int .i64 (Bl.cntB (Bl.mB es s) es.length : Int), .int .i64 0]) ∧ IntsBlk w' go (Bl.nums es.length (Bl.numB (Bl.mB es s))) ∧ w.heap.size ≤ go ∧ Below w.heap.size w w'

set_option maxRecDepth 100000 in
set_option maxHeartbeats 16000000 in
theorem pof9_yes (n : Nat) (ao : Option Addr) (cap : Nat) (es : List (Int × Int)) (w : World) (he : EdgesAt w ao es) (hval : Si.Val n es) :
    Calls Try.prog 9 #[graphVal n ao es.length cap] w (OfP9 n es w) := by
  have hb1 : Below w.heap.size w (w.alloc (.cells #[.int .i64 (n : Int), .slice ao es.length cap] 24)) := (Below.refl _ _).alloc (Nat.le_refl _) _
  have HP := Nu.hid (part_yes n ao cap es _ (he.later hb1) hval)
  have HB1 := Nu.hid hb1
  unfold graphVal at HP ⊢
  clear he hb1
  go_enter Try.func9, Try.ntmps9
  go_wp2_with (go_at_call 26; refine HP.out.mono ?_; rintro e w2 ⟨p, av, mb, lo, lc, s, F, D, K, go, rfl, hpt, hio, hgo, hb2⟩; refine Hid.out ?_)
  refine Nu.hid ?_
  have HB2 := Nu.hid (HB1.out.trans (hb2.mono HB1.out.size))
  have hpL : ∀ E : LW w2, PtIn E.val p av mb lo lc (.slice (some ⟨go, 0, none⟩) es.length es.length) n es s F D K := fun E => hpt.later E.h
  have c3 : ∀ E : LW w2, E.val.cell? ⟨p, 3, none⟩ = some (.slice (some ⟨go, 0, none⟩) es.length es.length) := fun E => (hpL E).cells.2.2.2.1
  have HCN : Hid (∀ E : LW w2, Calls Try.prog 27 #[.pointer (some ⟨p, 0, none⟩)] E.val fun e w' => e = .returned (.int .i64 (Bl.cntB (Bl.mB es s) es.length : Int)) ∧ Below E.val.heap.size E.val w') := fun E => (count_any9 (hpL E)).mono fun e w' ⟨h1, h2⟩ => ⟨h1, by rw [h2]; exact Below.refl _ _⟩
  have HVF := Nu.hid hpt.vf
  have HIO := Nu.hid hio
  have HGO : Hid (w.heap.size ≤ go) := Nat.le_trans HB1.out.size hgo
  have hne := LW.any w2
  clear hpt hio hgo hb2 hpL
  go_wp2_with fail
  refine wp_region_lw (by kernel_rfl) (by kernel_rfl) ?_
  repeat (go_big_quiet_step ((first | (go_at_call 27; exact Calls.lw (HCN.out _)))))
  refine wpQuiet_nil ?_
  rintro _ ⟨E, rfl⟩
  go_wp2
  go_ret3
  exact ⟨s, go, HVF.out, rfl, HIO.out.later E.h, HGO.out, HB2.out.trans (E.h.mono HB2.out.size)⟩

set_option maxRecDepth 100000 in
set_option maxHeartbeats 16000000 in
theorem pof9_no (n : Int) (ao : Option Addr) (cap : Nat) (es : List (Int × Int)) (w : World) (he : EdgesAt w ao es) (hl : es.length ≤ 4611686018427387904) (hv : Si.valid n es = false) :
    Calls Try.prog 9 #[graphVal n ao es.length cap] w fun e w' => e = .returned (.tuple #[.slice none 0 0, .int .i64 0, .int .i64 1]) ∧ Below w.heap.size w w' := by
  have hb1 : Below w.heap.size w (w.alloc (.cells #[.int .i64 n, .slice ao es.length cap] 24)) := (Below.refl _ _).alloc (Nat.le_refl _) _
  have HP := Nu.hid (part_no n ao cap es _ (he.later hb1) hl hv)
  have HB1 := Nu.hid hb1
  unfold graphVal at HP ⊢
  clear he hb1
  go_enter Try.func9, Try.ntmps9
  go_wp2_with (go_at_call 26; refine HP.out.mono ?_; rintro e w2 ⟨rfl, hb2⟩; have HB2 := Nu.hid (HB1.out.trans (hb2.mono HB1.out.size)); clear hb2)
  go_ret3
  exact ⟨rfl, HB2.out⟩
end Go.Proofs.Ytalfpbalekbinaa
