import Derived.Test.YtmgoahbloppdmaaMg30
import Derived.Test.YtmgoahbloppdmaaMg27
import Derived.Test.YtmgoahbloppdmaaMg28
import Derived.Test.YtmgoahbloppdmaaMg19
/-
  The walk gives a depth-first forest, pure: step by step, and at the end.
-/
namespace Go.Proofs.Ytmgoahbloppdmaa
namespace Df
section
variable {n r : Nat} {es : List (Int × Int)} {s s' : St} {W : List Int}

theorem side_mark {h k : Nat} : side n es (s.mark h) k = side n es s k := side_ext (s := s) (s' := s.mark h) k (fun _ _ => ⟨rfl, rfl⟩)

/-- A half-edge is walked to a new vertex. -/
theorem Inv.go {v h : Nat} (hval : Si.Val n es) (b : Bd n es r s) (i : Inv n es ((v : Int) :: W) s) (hl : h < 2 * es.length) (hf : Cs.fr es h = v) (hw : s.dir (h / 2) = -1) (hv : s.height (Cs.to es h) = -1) : Inv n es ((Cs.to es h : Int) :: (v : Int) :: W) (s.go es h) := by
  have hx := mark_ext b hl hw
  obtain ⟨hfn, ht⟩ := Cs.half_lt hval hl
  have bm := b.mark hl hw
  have hr : s.height v ≠ -1 := by
    obtain ⟨u, e, _, h2⟩ := i.rd v List.mem_cons_self
    obtain rfl : v = u := by omega
    exact h2
  have hy : s.height (Cs.fr es h) + 1 ≠ -1 := by
    have := (b.hh _ hfn).1
    omega
  have hv' : (s.mark h).height (Cs.to es h) = -1 := hv
  have hx2 := reach_ext bm ht hv' (h : Int) (s.height (Cs.fr es h) + 1)
  have hpar : at_ (s.go es h).par (Cs.to es h) = (h : Int) := by
    show at_ (s.par.set (Cs.to es h) (h : Int)) (Cs.to es h) = _
    rw [at_set (by rw [b.lp]; exact ht), if_pos rfl]
  have hnt : Cs.fr es h ≠ Cs.to es h := by
    intro e
    rw [← e, hf] at hv
    exact hr hv
  have hdir : (s.go es h).dir (h / 2) = (h : Int) := by
    show (s.mark h).dir (h / 2) = _
    rw [dir_mark b hl, if_pos rfl]
  have hht : (s.go es h).height (Cs.to es h) = s.height (Cs.fr es h) + 1 := by
    show ((s.mark h).reach (Cs.to es h) (h : Int) (s.height (Cs.fr es h) + 1)).height (Cs.to es h) = _
    rw [height_reach bm ht, if_pos rfl]
  have hhf : (s.go es h).height (Cs.fr es h) = s.height (Cs.fr es h) := by
    show ((s.mark h).reach (Cs.to es h) (h : Int) (s.height (Cs.fr es h) + 1)).height (Cs.fr es h) = _
    rw [height_reach bm ht, if_neg hnt]
    rfl
  refine Inv.new (s := s.mark h) (x := (h : Int)) (y := s.height (Cs.fr es h) + 1) bm ht hv' hy i.once i.mem (fun u hu hru => Hang2.ext hx hru (i.hang u hu hru)) ?_ (hx.way i.rd i.way) (fun e he hd => ?_) (fun u hu hru hn g hg hfg => hx.walked (i.fin u hu hru hn g hg hfg)) ?_ ?_
  · obtain ⟨X, B, h1, h2, h3⟩ := i.side
    exact ⟨X, B, side_mark.trans h1, h2, h3⟩
  · by_cases e1 : e = h / 2
    · subst e1
      exact ⟨h, by omega, hdir, .inl ⟨by rw [show ((s.mark h).reach (Cs.to es h) (h : Int) (s.height (Cs.fr es h) + 1)).height (Cs.to es h) = _ from hht]; exact hy, hpar⟩⟩
    · rw [dir_mark b hl, if_neg e1] at hd
      exact ((i.edge e he hd).ext hx).ext hx2
  · exact .inr ⟨h, hl, hpar, rfl, hdir, by rw [show ((s.mark h).reach (Cs.to es h) (h : Int) (s.height (Cs.fr es h) + 1)).height (Cs.fr es h) = _ from hhf, hf]; exact hr, by rw [show ((s.mark h).reach (Cs.to es h) (h : Int) (s.height (Cs.fr es h) + 1)).height (Cs.to es h) = _ from hht, show ((s.mark h).reach (Cs.to es h) (h : Int) (s.height (Cs.fr es h) + 1)).height (Cs.fr es h) = _ from hhf]⟩
  · show Cs.frI es (at_ (s.go es h).par ((Cs.to es h : Int)).toNat) = _
    rw [Int.toNat_natCast, hpar, Cs.frI_in hl, hf]
    rfl

/-- A root. -/
theorem Inv.root {v : Nat} (b : Bd n es r s) (i : Inv n es [] s) (hv : v < n) (hu : s.height v = -1) : Inv n es [(v : Int)] (s.reach v (-1) 0) := by
  have hx := reach_ext b hv hu (-1) 0
  have hpar : at_ (s.reach v (-1) 0).par v = -1 := by
    show at_ (s.par.set v (-1)) v = _
    rw [at_set (by rw [b.lp]; exact hv), if_pos rfl]
  refine Inv.new b hv hu (by omega) i.once i.mem i.hang i.side i.way (fun e he hd => (i.edge e he hd).ext hx) i.fin (.inl ⟨hpar, by rw [height_reach b hv, if_pos rfl]⟩) ?_
  show Cs.frI es (at_ (s.reach v (-1) 0).par ((v : Int)).toNat) = _
  rw [Int.toNat_natCast, hpar]
  exact Cs.frI_no (by omega)

/-- The vertex at which it stands is done. -/
theorem Inv.finish {v : Nat} (i : Inv n es ((v : Int) :: W) s) (hd : ∀ h, h < 2 * es.length → Cs.fr es h = v → s.dir (h / 2) ≠ -1) : Inv n es W s := by
  refine ⟨i.once, i.mem, i.hang, ?_, i.way.2.2, i.edge, fun u hu hr hn h hh hf => ?_⟩
  · obtain ⟨X, B, h1, h2, h3⟩ := i.side
    refine ⟨X ++ [(v : Int)], B, ?_, ?_, ?_⟩ <;> rw [List.append_assoc] <;> assumption
  · by_cases e : u = v
    · exact hd h hh (by rw [hf, e])
    · exact i.fin u hu hr (fun hm => (List.mem_cons.1 hm).elim (fun e1 => e (by omega)) hn) h hh hf

theorem out_all {v h : Nat} (hh : h < 2 * es.length) (hf : Cs.fr es h = v) : h ∈ Cs.out es v (2 * es.length) := List.mem_of_getElem? (Cs.out_at hh hf)
theorem out_fr {v h : Nat} (hh : h ∈ Cs.out es v (2 * es.length)) : h < 2 * es.length ∧ Cs.fr es h = v := by
  obtain ⟨j, hj⟩ := List.getElem?_of_mem hh
  exact ⟨(Cs.out_of hj).1, (Cs.out_of hj).2.1⟩

/-- The walk of the half-edges of one vertex keeps it, and walks them all. -/
theorem R.inv {k : Nat} {L : List Nat} (hval : Si.Val n es) (h : R es k s L s') : ∀ (v : Nat) (W : List Int), Bd n es r s → Inv n es ((v : Int) :: W) s → (∀ x ∈ L, x < 2 * es.length ∧ Cs.fr es x = v) → (∀ x, x < 2 * es.length → Cs.fr es x = v → x ∈ L ∨ s.dir (x / 2) ≠ -1) →
    Inv n es ((v : Int) :: W) s' ∧ Ext s s' ∧ ∀ x, x < 2 * es.length → Cs.fr es x = v → s'.dir (x / 2) ≠ -1 := by
  induction h with
  | nil s =>
    intro v W b i hL hF
    refine ⟨i, Ext.refl s, fun x hx hf => ?_⟩
    rcases hF x hx hf with h | h
    · simp at h
    · exact h
  | @old k s s' h L hw hr ih =>
    intro v W b i hL hF
    refine ih v W b i (fun x hx => hL x (List.mem_cons_of_mem _ hx)) (fun x hx hf => ?_)
    rcases hF x hx hf with h1 | h1
    · rcases List.mem_cons.1 h1 with rfl | h1
      · exact .inr hw
      · exact .inl h1
    · exact .inr h1
  | @back k s s' h L hw hv hr ih =>
    intro v W b i hL hF
    obtain ⟨hh, hf⟩ := hL h List.mem_cons_self
    have hx := mark_ext b hh hw
    obtain ⟨h1, h2, h3⟩ := ih v W (b.mark hh hw) (i.back hval b hh hf hw hv) (fun x hx => hL x (List.mem_cons_of_mem _ hx)) (fun x hxl hfx => by
      rcases hF x hxl hfx with h1 | h1
      · rcases List.mem_cons.1 h1 with rfl | h1
        · exact .inr (by rw [dir_mark b hh, if_pos rfl]; omega)
        · exact .inl h1
      · exact .inr (hx.walked h1))
    exact ⟨h1, hx.trans h2, h3⟩
  | @tree j k s s1 s' h L hw hv hr1 hr2 ih1 ih2 =>
    intro v W b i hL hF
    obtain ⟨hh, hf⟩ := hL h List.mem_cons_self
    have bg := b.go hval hh hw
    have hx : Ext s (s.go es h) := (mark_ext b hh hw).trans (reach_ext (b.mark hh hw) (Cs.half_lt hval hh).2 hv _ _)
    obtain ⟨i1, x1, d1⟩ := ih1 (Cs.to es h) ((v : Int) :: W) bg (i.go hval b hh hf hw hv) (fun x hx => out_fr hx) (fun x hxl hfx => .inl (out_all hxl hfx))
    have hx1 := hx.trans x1
    obtain ⟨h1, h2, h3⟩ := ih2 v W (hr1.bd hval out_half bg) (i1.finish d1) (fun x hx => hL x (List.mem_cons_of_mem _ hx)) (fun x hxl hfx => by
      rcases hF x hxl hfx with h1 | h1
      · rcases List.mem_cons.1 h1 with rfl | h1
        · refine .inr ?_
          have : (s.go es x).dir (x / 2) = (x : Int) := by
            show (s.mark x).dir (x / 2) = _
            rw [dir_mark b hh, if_pos rfl]
          rw [x1.dir _ (by rw [this]; omega), this]
          omega
        · exact .inl h1
      · exact .inr (hx1.walked h1))
    exact ⟨h1, hx1.trans h2, h3⟩

theorem getD_rep (m v : Nat) : (List.replicate m (-1 : Int)).getD v (-1) = -1 := by
  rw [List.getD_eq_getElem?_getD, List.getElem?_replicate]
  split <;> rfl

theorem Wk.inv (hval : Si.Val n es) {i : Nat} (h : Wk n es i s) : i ≤ n → Inv n es [] s ∧ ∀ v, v < i → s.height v ≠ -1 := by
  induction h with
  | zero =>
    intro _
    have hh : ∀ v, (St.start n es.length).height v = -1 := fun v => getD_rep n v
    have hd : ∀ e, (St.start n es.length).dir e = -1 := fun e => getD_rep es.length e
    refine ⟨⟨fun i hi => absurd hi (by simp [St.start]), fun v hv => ?_, fun v hv h => absurd (hh v) h, ⟨[], _, rfl, by simp, fun x hx => absurd hx (by simp)⟩, trivial, fun e he h => absurd (hd e) h, fun v hv h => absurd (hh v) h⟩, fun v hv => absurd hv (by omega)⟩
    constructor
    · intro h; simp [St.start] at h
    · exact fun h => absurd (hh v) h
  | @pass i s h hv ih =>
    intro hi
    obtain ⟨h1, h2⟩ := ih (by omega)
    refine ⟨h1, fun v hvi => ?_⟩
    by_cases e : v = i
    · rw [e]; exact hv
    · exact h2 v (by omega)
  | @walk i k s s' h hv hr ih =>
    intro hi
    obtain ⟨h1, h2⟩ := ih (by omega)
    have b := h.bd hval (by omega)
    have hx := reach_ext b (by omega : i < n) hv (-1) 0
    obtain ⟨i1, x1, d1⟩ := hr.inv hval i [] (b.root (by omega)) (h1.root b (by omega) hv) (fun x hx => out_fr hx) (fun x hxl hfx => .inl (out_all hxl hfx))
    refine ⟨i1.finish d1, fun v hvi => ?_⟩
    by_cases e : v = i
    · rw [e]
      refine x1.reached ?_
      rw [height_reach b (by omega), if_pos rfl]
      omega
    · exact (hx.trans x1).reached (h2 v (by omega))

theorem at_get {l : List Int} {i : Nat} (hi : i < l.length) : at_ l i = l[i] := by
  unfold at_
  rw [List.getD_eq_getElem?_getD, List.getElem?_eq_getElem hi]
  rfl

/-- The walk of a valid graph is a depth-first forest of it. -/
theorem Wk.vf (hval : Si.Val n es) (h : Wk n es n s) : VF n es s := by
  obtain ⟨i, hall⟩ := h.inv hval (Nat.le_refl _)
  have b := h.bd hval (Nat.le_refl _)
  have hfew := hval.few
  have hnod : s.ord.Nodup := by
    unfold List.Nodup
    rw [List.pairwise_iff_getElem]
    intro a c ha hc hac
    have := i.once c hc a hac
    rw [at_get ha, at_get hc] at this
    exact this
  have hperm : s.ord.Perm ((List.range n).map Int.ofNat) := by
    rw [List.perm_ext_iff_of_nodup hnod]
    · intro x
      constructor
      · intro hx
        have := b.hd x hx
        exact List.mem_map.2 ⟨x.toNat, List.mem_range.2 (by omega), by simp; omega⟩
      · intro hx
        obtain ⟨v, hv, rfl⟩ := List.mem_map.1 hx
        exact (i.mem v (List.mem_range.1 hv)).2 (hall v (List.mem_range.1 hv))
    · rw [List.nodup_iff_pairwise_ne, List.pairwise_map]
      refine List.Pairwise.imp ?_ List.nodup_range
      intro a c hac e
      exact hac (Int.ofNat.inj e)
  have hlen : s.ord.length = n := by rw [hperm.length_eq]; simp
  refine ⟨⟨b.lp, b.lh, hlen, b.lo⟩, fun a ha => ⟨?_, fun j hj => i.once a (by omega) j hj⟩, fun v hv => ?_, ?_, fun e he => ?_⟩
  · exact b.hd _ (at_mem (by omega))
  · rcases i.hang v hv (hall v hv) with h1 | ⟨x, h1, h2, h3, h4, h5, h6⟩
    · exact .inl h1
    · refine .inr ⟨x, h1, h2, h3, h4, ?_⟩
      have h7 := b.hh _ (Cs.half_lt hval h1).1
      rw [IntKind.wrap_i64]
      show s.height v = _
      rw [h6]
      have e : at_ s.hei (Cs.fr es x) = s.height (Cs.fr es x) := rfl
      rw [e]
      omega
  · obtain ⟨X, B, h1, _, _⟩ := i.side
    rw [hlen] at h1
    exact ⟨_, h1⟩
  · have h2 : 2 * e < 2 * es.length := by omega
    have hf := (Cs.half_lt hval h2).1
    have hd := i.fin _ hf (hall _ hf) (by simp) (2 * e) h2 rfl
    rw [show 2 * e / 2 = e by omega] at hd
    obtain ⟨x, h3, h4, h5⟩ := i.edge e he hd
    refine ⟨x, h3, h4, ?_⟩
    rcases h5 with ⟨_, h6⟩ | ⟨Y, h6, h7, _⟩
    · exact .inl h6
    · exact .inr ⟨Y, h6, h7⟩
end
end Df
end Go.Proofs.Ytmgoahbloppdmaa

/-
  The walk of a valid graph, and what Of, Returns and the document's Ends answer of it, slice by slice.
-/
namespace Go.Proofs.Ytmgoahbloppdmaa
open Go.RowKit

theorem OwnZ.room {w : World} {B n c : Nat} {ao : Option Addr} {l : List Int} (h : OwnZ w B (.slice ao n c) l) : n ≤ c := by
  rcases h.2 with ⟨e, h0⟩ | ⟨g, cap, cur, e, _, _, h1, _⟩
  · cases e
    exact Nat.le_refl _
  · cases e
    exact h1

section
variable {n m : Nat} {ao : Option Addr} {ca : Nat} {es : List (Int × Int)} {s : Df.St} {w : World}

theorem walk_yes (hv : Si.Val m es) (he : EdgesAt w ao es) (hl : es.length ≤ 4611686018427387904) :
    Calls Try.prog 7 #[.agg #[.int .i64 (m : Int), .slice ao es.length ca]] w fun e w' => ∃ a1 a2 a3 a4 c1 c2 c3 c4 s, e = .returned (.tuple #[.agg #[.slice a1 m c1, .slice a2 m c2, .slice a3 m c3, .slice a4 es.length c4], .int .i64 0]) ∧ LstF w' ⟨a1, a2, a3, a4, c1, c2, c3, c4⟩ s ∧ Df.VF m es s ∧ m ≤ c3 ∧ Below w.heap.size w w' := by
  refine (dwalk_any m ao ca es w he hl).mono ?_
  rintro e w' ⟨v1, v2, v3, v4, s, z, rfl, hown, ⟨m', hm, _, hwk, rfl⟩ | ⟨hno, _⟩, hb⟩
  · obtain rfl : m' = m := by omega
    have hVF := hwk.vf hv
    obtain ⟨l1, l2, l3, l4⟩ := hVF.lens
    have hfew := hv.few
    have hhi := hv.hi
    obtain ⟨f, rfl, rfl, rfl, rfl, hF⟩ := hown.lst (by omega)
    have hr := hown.o3.room
    obtain ⟨a1, a2, a3, a4, c1, c2, c3, c4⟩ := f
    refine ⟨a1, a2, a3, a4, c1, c2, c3, c4, s, ?_, hF, hVF, ?_, hb⟩
    · rw [l1, l2, l3, l4]
    · rw [l3] at hr; exact hr
  · rw [Si.valid_iff.2 hv] at hno
    cases hno

theorem walk_no {n : Int} (hv : Si.valid n es = false) (he : EdgesAt w ao es) (hl : es.length ≤ 4611686018427387904) :
    Calls Try.prog 7 #[.agg #[.int .i64 n, .slice ao es.length ca]] w fun e w' => ∃ a1 a2 a3 a4 c1 c2 c3 c4, e = .returned (.tuple #[.agg #[.slice a1 0 c1, .slice a2 0 c2, .slice a3 0 c3, .slice a4 0 c4], .int .i64 1]) ∧ LstF w' ⟨a1, a2, a3, a4, c1, c2, c3, c4⟩ ⟨[], [], [], []⟩ ∧ Below w.heap.size w w' := by
  refine (dwalk_any n ao ca es w he hl).mono ?_
  rintro e w' ⟨v1, v2, v3, v4, s, z, rfl, hown, ⟨m', hm, hval, hwk, rfl⟩ | ⟨hno, rfl, rfl⟩, hb⟩
  · rw [Si.valid_iff.2 hval] at hv
    cases hv
  · obtain ⟨f, rfl, rfl, rfl, rfl, hF⟩ := hown.lst (by simp)
    obtain ⟨a1, a2, a3, a4, c1, c2, c3, c4⟩ := f
    exact ⟨a1, a2, a3, a4, c1, c2, c3, c4, rfl, hF, hb⟩

theorem of_yes {a1 a2 a3 a4 : Option Addr} {c1 c2 c3 c4 : Nat} (hv : Si.Val m es) (hVF : Df.VF m es s) (he : EdgesAt w ao es) (hF : LstF w ⟨a1, a2, a3, a4, c1, c2, c3, c4⟩ s) :
    Calls Try.prog 8 #[.agg #[.int .i64 (m : Int), .slice ao es.length ca], .agg #[.slice a1 m c1, .slice a2 m c2, .slice a3 m c3, .slice a4 es.length c4]] w fun e w' => ∃ b1 b2 b3 b4 d1 d2 d3 d4 vs, e = .returned (.tuple #[.agg #[.slice b1 es.length d1, .slice b2 es.length d2, .slice b3 es.length d3, .slice b4 m d4], .int .i64 0]) ∧ Lst w' b1 es.length d1 (upTo (Lo.low es s) es.length) ∧ Lst w' b2 es.length d2 (upTo (Lo.low2 es s) es.length) ∧ Lst w' b3 es.length d3 (upTo (Lo.nest es s) es.length) ∧ RowsZ w' w.heap.size (.slice b4 m d4) vs (Lo.outTo m es s es.length) ∧ Below w.heap.size w w' := by
  obtain ⟨l1, l2, l3, l4⟩ := hVF.lens
  have h := pof_new m ao ca es ⟨a1, a2, a3, a4, c1, c2, c3, c4⟩ s w he (by have := hv.few; omega) hF
  unfold For.val at h
  rw [l1, l2, l3, l4] at h
  refine h.mono ?_
  intro e w' hp
  obtain ⟨v1, v2, v3, vo, vs, A1, A2, A3, ls, z, rfl, hI, o1, o2, o3, o4, hb⟩ := hp.low
  obtain ⟨rfl, rfl, rfl, rfl, rfl⟩ := hI.unique (.inr (.inr ⟨m, rfl, hv, hVF, rfl, rfl, rfl, rfl, rfl⟩))
  obtain ⟨b1, d1, e1, k1, _⟩ := o1.lst
  obtain ⟨b2, d2, e2, k2, _⟩ := o2.lst
  obtain ⟨b3, d3, e3, k3, _⟩ := o3.lst
  obtain ⟨b4, d4, e4⟩ := row_shape o4
  rw [upTo_len] at e1 e2 e3 k1 k2 k3
  rw [Lo.outTo_len] at e4
  subst e1 e2 e3 e4
  exact ⟨b1, b2, b3, b4, d1, d2, d3, d4, vs, rfl, k1, k2, k3, o4, hb⟩

theorem of_no {n : Int} {a1 a2 a3 a4 : Option Addr} {c1 c2 c3 c4 : Nat} (hv : Si.valid n es = false) (he : EdgesAt w ao es) (hl : es.length ≤ 4611686018427387904) (hF : LstF w ⟨a1, a2, a3, a4, c1, c2, c3, c4⟩ ⟨[], [], [], []⟩) :
    Calls Try.prog 8 #[.agg #[.int .i64 n, .slice ao es.length ca], .agg #[.slice a1 0 c1, .slice a2 0 c2, .slice a3 0 c3, .slice a4 0 c4]] w fun e w' => ∃ b1 b2 b3 b4 d1 d2 d3 d4, e = .returned (.tuple #[.agg #[.slice b1 0 d1, .slice b2 0 d2, .slice b3 0 d3, .slice b4 0 d4], .int .i64 1]) ∧ Below w.heap.size w w' := by
  refine (pof_new n ao ca es ⟨a1, a2, a3, a4, c1, c2, c3, c4⟩ ⟨[], [], [], []⟩ w he hl hF).mono ?_
  intro e w' hp
  obtain ⟨v1, v2, v3, vo, vs, A1, A2, A3, ls, z, rfl, hI, o1, o2, o3, o4, hb⟩ := hp.low
  obtain ⟨rfl, rfl, rfl, rfl, rfl⟩ := hI.unique (.inl ⟨hv, rfl, rfl, rfl, rfl, rfl⟩)
  obtain ⟨b1, d1, rfl, _⟩ := o1.lst
  obtain ⟨b2, d2, rfl, _⟩ := o2.lst
  obtain ⟨b3, d3, rfl, _⟩ := o3.lst
  obtain ⟨b4, d4, rfl⟩ := row_shape o4
  exact ⟨b1, b2, b3, b4, d1, d2, d3, d4, rfl, hb⟩

theorem ret_yes {a1 a2 a3 a4 : Option Addr} {c1 c2 c3 c4 : Nat} (k : Nat) (hk : k < es.length) (hv : Si.Val m es) (hVF : Df.VF m es s) (he : EdgesAt w ao es) (hF : LstF w ⟨a1, a2, a3, a4, c1, c2, c3, c4⟩ s) (hr : m ≤ c3) :
    Calls Try.prog 10 #[.agg #[.int .i64 (m : Int), .slice ao es.length ca], .agg #[.slice a1 m c1, .slice a2 m c2, .slice a3 m c3, .slice a4 es.length c4], .int .i64 (k : Int)] w fun e w' => ∃ b d, e = .returned (.tuple #[.slice b (Lo.rets es s k).length d, .int .i64 0]) ∧ Below w.heap.size w w' := by
  obtain ⟨l1, l2, l3, l4⟩ := hVF.lens
  have h := pret_any m ao ca es ⟨a1, a2, a3, a4, c1, c2, c3, c4⟩ s k w he (by have := hv.few; omega) hF (by rw [l3]; exact hr)
  unfold For.val at h
  rw [l1, l2, l3, l4] at h
  refine h.mono ?_
  rintro e w' ⟨v, l, z, rfl, hI, ho, hb⟩
  obtain ⟨rfl, rfl⟩ := hI.unique (.inr (.inr (.inr ⟨k, ⟨m, rfl, hv, hVF⟩, rfl, hk, rfl, rfl⟩)))
  obtain ⟨b, d, e1, _⟩ := ho.lst
  unfold zs at e1
  rw [List.length_map] at e1
  subst e1
  exact ⟨b, d, rfl, hb⟩

theorem ends_yes {a1 a2 a3 a4 : Option Addr} {c1 c2 c3 c4 : Nat} (k : Nat) (hk : k < es.length) (hv : Si.Val m es) (hVF : Df.VF m es s) (he : EdgesAt w ao es) (hF : LstF w ⟨a1, a2, a3, a4, c1, c2, c3, c4⟩ s) :
    Calls Try.prog 9 #[.agg #[.int .i64 (m : Int), .slice ao es.length ca], .agg #[.slice a1 m c1, .slice a2 m c2, .slice a3 m c3, .slice a4 es.length c4], .int .i64 (k : Int)] w fun r w' => r = .returned (.tuple #[.int .i64 (Lo.fr es s k : Int), .int .i64 (Lo.go_ es s k : Int)]) ∧ Below w.heap.size w w' := by
  obtain ⟨l1, l2, l3, l4⟩ := hVF.lens
  have h := r8ends_any (ca := ca) k he hv hF hVF hk
  unfold For.val at h
  rw [l1, l2, l3, l4] at h
  exact h
end

/-- A number of such a list. -/
theorem up_at {w : World} {b : Option Addr} {k d i : Nat} {f : Nat → Int} (h : Lst w b k d (upTo f k)) (hi : i < k) : ∃ g o, b = some ⟨g, o, none⟩ ∧ w.cell? ⟨g, o + i, none⟩ = some (.int .i64 (f i)) := h.ints i _ (upTo_at hi)

end Go.Proofs.Ytmgoahbloppdmaa

/-
  What stays while the edges of a graph are gone through, its walk and its lows at hand.
-/
namespace Go.Proofs.Ytmgoahbloppdmaa
open Go.RowKit

theorem same_bool {a b : Int} {r : Nat} (h : a = b ↔ r = 0) : ∃ bb, (a == b) = bb ∧ ((r : Int) == 0) = bb := by
  by_cases e : a = b
  · exact ⟨true, by simp [e], by simp [h.1 e]⟩
  · exact ⟨false, by simp [e], by have := mt h.2 e; simp; omega⟩
theorem wrap_mid {x : Int} (h : 0 ≤ x) (h2 : x ≤ 4611686018427387904) : IntKind.i64.wrap x = x := by
  obtain ⟨k, rfl⟩ : ∃ k : Nat, x = (k : Int) := ⟨x.toNat, by omega⟩
  simp [IntKind.wrap, IntKind.bits, IntKind.signed]
  omega

/-- What stays while the edges are gone through. -/
structure Held (w W : World) (B2 B4 : Nat) (m : Nat) (ao : Option Addr) (ca : Nat) (es : List (Int × Int)) (a1 a2 a3 a4 : Option Addr) (c1 c2 c3 c4 : Nat) (s : Df.St) (b1 b2 b3 b4 : Option Addr) (d1 d2 d3 d4 : Nat) (V : World) : Prop where
  x0 : V.cell? ⟨w.heap.size, 0, none⟩ = some (.int .i64 (m : Int))
  x1 : V.cell? ⟨w.heap.size, 1, none⟩ = some (.slice ao es.length ca)
  y0 : V.cell? ⟨B2, 0, none⟩ = some (.slice a1 m c1)
  y1 : V.cell? ⟨B2, 1, none⟩ = some (.slice a2 m c2)
  y2 : V.cell? ⟨B2, 2, none⟩ = some (.slice a3 m c3)
  y3 : V.cell? ⟨B2, 3, none⟩ = some (.slice a4 es.length c4)
  z0 : V.cell? ⟨B4, 0, none⟩ = some (.slice b1 es.length d1)
  z1 : V.cell? ⟨B4, 1, none⟩ = some (.slice b2 es.length d2)
  z2 : V.cell? ⟨B4, 2, none⟩ = some (.slice b3 es.length d3)
  z3 : V.cell? ⟨B4, 3, none⟩ = some (.slice b4 m d4)
  lt : w.heap.size < V.heap.size ∧ B2 < V.heap.size ∧ B4 < V.heap.size
  edges : EdgesAt V ao es
  lf : LstF V ⟨a1, a2, a3, a4, c1, c2, c3, c4⟩ s
  l1 : Lst V b1 es.length d1 (upTo (Lo.low es s) es.length)
  l2 : Lst V b2 es.length d2 (upTo (Lo.low2 es s) es.length)
  l3 : Lst V b3 es.length d3 (upTo (Lo.nest es s) es.length)
  bel : Below w.heap.size w V

end Go.Proofs.Ytmgoahbloppdmaa

/-
  Bridges, pure (P8.2): an edge whose Low is below where it begins is none; a tree edge is one just if nothing below it leads back to where it begins, or above.
-/
namespace Go.Proofs.Ytmgoahbloppdmaa
namespace Lo
open Df

/-- No edge but e leads out of S, or in. -/
def Shut (es : List (Int × Int)) (s : St) (e : Nat) (S : Nat → Prop) : Prop := ∀ k, k < es.length → k ≠ e → (S (fr es s k) ↔ S (go_ es s k))
/-- Without e there is a path from a to b. -/
def Conn (es : List (Int × Int)) (s : St) (e a b : Nat) : Prop := ∀ S, Shut es s e S → (S a ↔ S b)

section
variable {n : Nat} {es : List (Int × Int)} {s : St} {e : Nat}

/-- The tree edge by which a vertex hangs. -/
theorem hang_edge (h : VF n es s) {x : Nat} {y : Int} (hx : x < n) (hup : Df.up es s x = y) (hy : 0 ≤ y) : ∃ k, k < es.length ∧ tree es s k = true ∧ go_ es s k = x ∧ (fr es s k : Int) = y := by
  rcases h.hang x hx with ⟨h1, _⟩ | ⟨z, h2, h3, h4, h5, _⟩
  · unfold Df.up at hup
    rw [Int.toNat_natCast, h1, Cs.frI_no (by omega)] at hup
    omega
  · have hk : z / 2 < es.length := by omega
    have hoh : oh s (z / 2) = z := by unfold oh; rw [h5]; simp
    have hgo : go_ es s (z / 2) = x := by unfold go_; rw [hoh]; exact h4
    refine ⟨z / 2, hk, ?_, hgo, ?_⟩
    · rw [tree_iff h hk, hgo, hoh]
      exact h3
    · unfold Df.up at hup
      rw [Int.toNat_natCast, h3, Cs.frI_in h2] at hup
      unfold fr
      rw [hoh]
      exact hup

/-- Along a way that does not go by e one stays. -/
theorem way_conn (h : VF n es s) {S : Nat → Prop} (hS : Shut es s e S) {a : Nat} : ∀ (X : List Int) (Y : List Int) (u : Nat), (∀ x ∈ (u : Int) :: X, ∃ z : Nat, z < n ∧ x = (z : Int)) → IsWay es s ((u : Int) :: X ++ (a : Int) :: Y) → (∀ x ∈ (u : Int) :: X, tree es s e = true → x ≠ (go_ es s e : Int)) → (S u ↔ S a)
  | [], Y, u, hr, hw, hne => by
    obtain ⟨z, hz, hzu⟩ := hr u List.mem_cons_self
    have hup : Df.up es s u = (a : Int) := hw.2.1
    obtain ⟨k, hk, htk, hgk, hfk⟩ := hang_edge h (x := u) (by omega) hup (by omega)
    have hke : k ≠ e := fun e1 => by
      subst e1
      exact hne u List.mem_cons_self htk (by rw [hgk])
    have := hS k hk hke
    rw [hgk, show fr es s k = a by omega] at this
    exact this.symm
  | y :: X, Y, u, hr, hw, hne => by
    obtain ⟨z, hz, hzu⟩ := hr u List.mem_cons_self
    obtain ⟨q, hq, rfl⟩ := hr y (List.mem_cons_of_mem _ List.mem_cons_self)
    have hup : Df.up es s u = (q : Int) := hw.2.1
    obtain ⟨k, hk, htk, hgk, hfk⟩ := hang_edge h (x := u) (by omega) hup (by omega)
    have hke : k ≠ e := fun e1 => by
      subst e1
      exact hne u List.mem_cons_self htk (by rw [hgk])
    have h1 := hS k hk hke
    rw [hgk, show fr es s k = q by omega] at h1
    have h2 := way_conn h hS X Y q (fun x hx => hr x (List.mem_cons_of_mem _ hx)) hw.2.2 (fun x hx => hne x (List.mem_cons_of_mem _ hx))
    exact h1.symm.trans h2

/-- From u up to a vertex above it, if the end of e does not stand between. -/
theorem up_conn (h : VF n es s) {S : Nat → Prop} (hS : Shut es s e S) {a u : Nat} (hu : u < n) (ha : Anc es s a u) (hne : tree es s e = true → ∀ x : Nat, Anc es s a x → a ≠ x → Anc es s x u → x ≠ go_ es s e) : S u ↔ S a := by
  by_cases hau : a = u
  · rw [hau]
  · obtain ⟨⟨W, B⟩, hs'⟩ := h.side
    obtain ⟨Y, hw, _, hr⟩ := way_of (es := es) h.once hs' hu
    have hm := (Anc.iff hw).1 ha
    obtain ⟨X, Z, hXZ⟩ := List.append_of_mem hm
    cases X with
    | nil =>
      exfalso
      have : (u : Int) = (a : Int) := by
        simp at hXZ
        omega
      omega
    | cons x0 X =>
      have hx0 : x0 = (u : Int) := by
        simp at hXZ
        exact hXZ.1.symm
      subst hx0
      have hw2 := hw
      rw [hXZ] at hw2
      refine way_conn h hS X Z u (fun x hx => ?_) hw2 (fun x hx ht e1 => ?_)
      · rcases List.mem_cons.1 hx with rfl | hx
        · exact ⟨u, hu, rfl⟩
        · refine hr x ?_
          have : x ∈ (u : Int) :: Y := by rw [hXZ]; simp [hx]
          rcases List.mem_cons.1 this with rfl | h3
          · have hn : ((u : Int) :: X ++ (a : Int) :: Z).Nodup := by
              have := (side_inv h.once n (Nat.le_refl _) W B hs')
              obtain ⟨b, hb, eb⟩ := h.once.onto hu
              obtain ⟨_, ⟨Y', hY'⟩, hw', _, hnd⟩ := this.hist b hb
              rw [eb] at hY'
              rw [hY'] at hw' hnd
              have he := IsWay.unique hw hw' rfl
              rw [← hXZ, he]
              exact hnd
            rw [List.cons_append, List.nodup_cons] at hn
            exact absurd (List.mem_append_left _ hx) hn.1
          · exact h3
      · have hsuf : ∃ X1 X2, (u : Int) :: X = X1 ++ x :: X2 := List.append_of_mem hx
        obtain ⟨X1, X2, hX12⟩ := hsuf
        have hway : IsWay es s (x :: (X2 ++ (a : Int) :: Z)) := by
          have hw3 := hw2
          rw [hX12, List.append_assoc] at hw3
          exact hw3.tail
        rw [e1] at hway hX12
        have hax : Anc es s a (go_ es s e) := ⟨_, hway, by simp⟩
        have hxu : Anc es s (go_ es s e) u := ⟨Y, hw, by rw [hXZ, hX12]; simp⟩
        have hne2 : a ≠ go_ es s e := fun e2 => by
          have hn : ((u : Int) :: X ++ (a : Int) :: Z).Nodup := by
            have := (side_inv h.once n (Nat.le_refl _) W B hs')
            obtain ⟨b, hb, eb⟩ := h.once.onto hu
            obtain ⟨_, ⟨Y', hY'⟩, hw', _, hnd⟩ := this.hist b hb
            rw [eb] at hY'
            rw [hY'] at hw' hnd
            have he := IsWay.unique hw hw' rfl
            rw [← hXZ, he]
            exact hnd
          rw [List.nodup_append] at hn
          exact hn.2.2 (go_ es s e : Int) (by rw [hX12]; simp) (a : Int) List.mem_cons_self (by rw [e2])
        exact hne ht _ hax hne2 hxu rfl
end
end Lo
end Go.Proofs.Ytmgoahbloppdmaa
