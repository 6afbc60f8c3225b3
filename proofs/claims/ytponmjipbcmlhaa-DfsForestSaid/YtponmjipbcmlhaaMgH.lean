import Derived.Test.YtponmjipbcmlhaaMgD
/-
  The walk gives a depth-first forest, pure: what is so of every walk under way.
-/
namespace Go.Proofs.Ytponmjipbcmlhaa
namespace Df

theorem at_set {l : List Int} {v : Nat} (hv : v < l.length) (x : Int) (u : Nat) : at_ (l.set v x) u = if u = v then x else at_ l u := by
  unfold at_
  rw [List.getD_eq_getElem?_getD, List.getElem?_set]
  by_cases e : v = u
  · rw [if_pos e, if_pos hv, if_pos e.symm]; rfl
  · rw [if_neg e, if_neg (fun h => e h.symm), List.getD_eq_getElem?_getD]

theorem at_app {l : List Int} {x : Int} {i : Nat} (hi : i < l.length) : at_ (l ++ [x]) i = at_ l i := by
  unfold at_
  rw [List.getD_eq_getElem?_getD, List.getElem?_append_left hi, List.getD_eq_getElem?_getD]

theorem at_last {l : List Int} {x : Int} : at_ (l ++ [x]) l.length = x := by
  unfold at_
  rw [List.getD_eq_getElem?_getD, List.getElem?_append_right (Nat.le_refl _)]
  simp

/-- s' goes on from s: what was reached or walked stays. -/
structure Ext (s s' : St) : Prop where
  par : ∀ v : Nat, s.height v ≠ -1 → at_ s'.par v = at_ s.par v
  hei : ∀ v : Nat, s.height v ≠ -1 → s'.height v = s.height v
  dir : ∀ e : Nat, s.dir e ≠ -1 → s'.dir e = s.dir e

theorem Ext.refl (s : St) : Ext s s := ⟨fun _ _ => rfl, fun _ _ => rfl, fun _ _ => rfl⟩
theorem Ext.reached {s s' : St} (h : Ext s s') {v : Nat} (hv : s.height v ≠ -1) : s'.height v ≠ -1 := by rw [h.hei v hv]; exact hv
theorem Ext.walked {s s' : St} (h : Ext s s') {e : Nat} (hv : s.dir e ≠ -1) : s'.dir e ≠ -1 := by rw [h.dir e hv]; exact hv
theorem Ext.trans {s s' s'' : St} (h : Ext s s') (h' : Ext s' s'') : Ext s s'' :=
  ⟨fun v hv => (h'.par v (h.reached hv)).trans (h.par v hv), fun v hv => (h'.hei v (h.reached hv)).trans (h.hei v hv), fun e he => (h'.dir e (h.walked he)).trans (h.dir e he)⟩

section
variable {n r : Nat} {es : List (Int × Int)} {s s' : St} {W : List Int}

theorem Ext.up (h : Ext s s') {v : Nat} (hv : s.height v ≠ -1) : Df.up es s' v = Df.up es s v := by
  unfold Df.up
  rw [Int.toNat_natCast, h.par v hv]

/-- All of them were reached. -/
abbrev Rd (n : Nat) (s : St) (W : List Int) : Prop := ∀ x ∈ W, ∃ u : Nat, x = (u : Int) ∧ u < n ∧ s.height u ≠ -1

theorem Ext.rd (h : Ext s s') (hr : Rd n s W) : Rd n s' W := fun x hx => by
  obtain ⟨u, e, h1, h2⟩ := hr x hx
  exact ⟨u, e, h1, h.reached h2⟩

theorem Ext.way (h : Ext s s') : ∀ {W : List Int}, Rd n s W → IsWay es s W → IsWay es s' W
  | [], _, _ => trivial
  | v :: W, hr, hw => by
    obtain ⟨u, rfl, h1, h2⟩ := hr v List.mem_cons_self
    refine ⟨hw.1, ?_, Ext.way h (fun x hx => hr x (List.mem_cons_of_mem _ hx)) hw.2.2⟩
    rw [h.up h2]
    exact hw.2.1

/-- An edge that was walked. -/
def Edge2 (n : Nat) (es : List (Int × Int)) (s : St) (e : Nat) : Prop :=
  ∃ h : Nat, (h = 2 * e ∨ h = 2 * e + 1) ∧ s.dir e = (h : Int) ∧ ((s.height (Cs.to es h) ≠ -1 ∧ at_ s.par (Cs.to es h) = (h : Int)) ∨ ∃ W, IsWay es s ((Cs.fr es h : Int) :: W) ∧ (Cs.to es h : Int) ∈ (Cs.fr es h : Int) :: W ∧ Rd n s ((Cs.fr es h : Int) :: W))

theorem Edge2.ext {e : Nat} (h : Ext s s') (hd : Edge2 n es s e) : Edge2 n es s' e := by
  obtain ⟨x, h1, h2, h3⟩ := hd
  refine ⟨x, h1, ?_, ?_⟩
  · rw [h.dir e (by rw [h2]; omega)]
    exact h2
  · rcases h3 with ⟨h4, h5⟩ | ⟨W, h4, h5, h6⟩
    · exact .inl ⟨h.reached h4, by rw [h.par _ h4]; exact h5⟩
    · exact .inr ⟨W, h.way h6 h4, h5, h.rd h6⟩

/-- What lies ahead decides. -/
theorem side_ext : ∀ k, (∀ i, i < k → at_ s'.ord i = at_ s.ord i ∧ Df.up es s' (at_ s.ord i) = Df.up es s (at_ s.ord i)) → side n es s' k = side n es s k
  | 0, _ => rfl
  | k + 1, h => by
    unfold side
    rw [side_ext k (fun i hi => h i (by omega))]
    obtain ⟨h1, h2⟩ := h k (by omega)
    rw [h1, h2]

/-- A vertex that was reached hangs as it should. -/
def Hang2 (es : List (Int × Int)) (s : St) (v : Nat) : Prop :=
  (at_ s.par v = -1 ∧ s.height v = 0) ∨ ∃ h : Nat, h < 2 * es.length ∧ at_ s.par v = (h : Int) ∧ Cs.to es h = v ∧ s.dir (h / 2) = (h : Int) ∧ s.height (Cs.fr es h) ≠ -1 ∧ s.height v = s.height (Cs.fr es h) + 1

theorem Hang2.ext {v : Nat} (h : Ext s s') (hv : s.height v ≠ -1) (hd : Hang2 es s v) : Hang2 es s' v := by
  unfold Hang2
  rw [h.par v hv, h.hei v hv]
  rcases hd with h1 | ⟨x, h1, h2, h3, h4, h5, h6⟩
  · exact .inl h1
  · refine .inr ⟨x, h1, h2, h3, ?_, h.reached h5, ?_⟩
    · rw [h.dir _ (by rw [h4]; omega)]
      exact h4
    · rw [h.hei _ h5]
      exact h6

/-- What is so of a walk under way; W: the way from the vertex at which it stands up to its root. -/
structure Inv (n : Nat) (es : List (Int × Int)) (W : List Int) (s : St) : Prop where
  once : ∀ i, i < s.ord.length → ∀ j, j < i → at_ s.ord j ≠ at_ s.ord i
  mem : ∀ v : Nat, v < n → ((v : Int) ∈ s.ord ↔ s.height v ≠ -1)
  hang : ∀ v : Nat, v < n → s.height v ≠ -1 → Hang2 es s v
  side : ∃ X B, Df.side n es s s.ord.length = some (X ++ W, B) ∧ (X ++ W).Nodup ∧ Rd n s (X ++ W)
  way : IsWay es s W
  edge : ∀ e, e < es.length → s.dir e ≠ -1 → Edge2 n es s e
  fin : ∀ v : Nat, v < n → s.height v ≠ -1 → (v : Int) ∉ W → ∀ h, h < 2 * es.length → Cs.fr es h = v → s.dir (h / 2) ≠ -1

theorem Inv.rd (h : Inv n es W s) : Rd n s W := by
  obtain ⟨X, B, _, _, hr⟩ := h.side
  exact fun x hx => hr x (List.mem_append_right _ hx)

theorem at_mem {l : List Int} {i : Nat} (hi : i < l.length) : at_ l i ∈ l := by
  unfold at_
  rw [List.getD_eq_getElem?_getD, List.getElem?_eq_getElem hi]
  exact List.getElem_mem hi

/-- A vertex of the order was reached. -/
theorem Inv.at_rd (b : Bd n es r s) (h : Inv n es W s) {i : Nat} (hi : i < s.ord.length) : ∃ u : Nat, at_ s.ord i = (u : Int) ∧ u < n ∧ s.height u ≠ -1 := by
  have hm := at_mem hi
  have h0 := b.hd _ hm
  refine ⟨(at_ s.ord i).toNat, by omega, by omega, (h.mem _ (by omega)).1 ?_⟩
  rw [Int.toNat_of_nonneg h0.1]
  exact hm

theorem mark_ext (b : Bd n es r s) {h : Nat} (hl : h < 2 * es.length) (hw : s.dir (h / 2) = -1) : Ext s (s.mark h) :=
  ⟨fun _ _ => rfl, fun _ _ => rfl, fun e he => by
    rw [dir_mark b hl, if_neg]
    intro e1
    rw [e1] at he
    exact he hw⟩

theorem reach_ext (b : Bd n es r s) {v : Nat} (hv : v < n) (hu : s.height v = -1) (x y : Int) : Ext s (s.reach v x y) :=
  ⟨fun u hr => by
    show at_ (s.par.set v x) u = _
    rw [at_set (by rw [b.lp]; exact hv), if_neg]
    intro e
    rw [e] at hr
    exact hr hu, fun u hr => by
    rw [height_reach b hv, if_neg]
    intro e
    rw [e] at hr
    exact hr hu, fun e he => rfl⟩

/-- A half-edge is walked back to a vertex of the way. -/
theorem Inv.back {v h : Nat} (hval : Si.Val n es) (b : Bd n es r s) (i : Inv n es ((v : Int) :: W) s) (hl : h < 2 * es.length) (hf : Cs.fr es h = v) (hw : s.dir (h / 2) = -1) (hv : s.height (Cs.to es h) ≠ -1) : Inv n es ((v : Int) :: W) (s.mark h) := by
  have hx := mark_ext b hl hw
  have ht := (Cs.half_lt hval hl).2
  have hin : (Cs.to es h : Int) ∈ (v : Int) :: W := by
    refine Classical.byContradiction fun hn => ?_
    have := i.fin _ ht hv hn (Cs.twin h) (Cs.twin_lt hl) (Cs.fr_twin es h)
    apply this
    have e : Cs.twin h / 2 = h / 2 := by unfold Cs.twin; split <;> omega
    rw [e]
    exact hw
  refine ⟨i.once, i.mem, fun u hu hr => Hang2.ext hx hr (i.hang u hu hr), ?_, hx.way i.rd i.way, fun e he hd => ?_, fun u hu hr hn g hg hfg => hx.walked (i.fin u hu hr hn g hg hfg)⟩
  · obtain ⟨X, B, h1, h2, h3⟩ := i.side
    refine ⟨X, B, ?_, h2, h3⟩
    show Df.side n es (s.mark h) s.ord.length = _
    exact (side_ext (s := s) (s' := s.mark h) s.ord.length (fun j hj => ⟨rfl, rfl⟩)).trans h1
  · by_cases e1 : e = h / 2
    · subst e1
      refine ⟨h, by omega, ?_, .inr ⟨W, ?_, ?_, ?_⟩⟩
      · rw [dir_mark b hl, if_pos rfl]
      · rw [hf]; exact hx.way i.rd i.way
      · rw [hf]; exact hin
      · rw [hf]; exact hx.rd i.rd
    · rw [dir_mark b hl, if_neg e1] at hd
      exact (i.edge e he hd).ext hx

theorem leave_at {p i : Int} : ∀ (X Y B : List Int), p ∉ X → (leave p i (X ++ p :: Y) B).1 = p :: Y
  | [], Y, B, _ => by
    show (leave p i (p :: Y) B).1 = _
    unfold leave
    rw [if_pos rfl]
  | x :: X, Y, B, h => by
    show (leave p i (x :: (X ++ p :: Y)) B).1 = _
    unfold leave
    rw [if_neg (fun e => h (by rw [e]; exact List.mem_cons_self))]
    exact leave_at X Y _ (fun hm => h (List.mem_cons_of_mem _ hm))

/-- What a new vertex changes, whatever its parent; p: its parent or -1; W: the way that it is put on. -/
theorem Inv.new {v : Nat} {x y : Int} (b : Bd n es r s) (hv : v < n) (hu : s.height v = -1) (hy : y ≠ -1)
    (once : ∀ i, i < s.ord.length → ∀ j, j < i → at_ s.ord j ≠ at_ s.ord i) (mem : ∀ v : Nat, v < n → ((v : Int) ∈ s.ord ↔ s.height v ≠ -1)) (hang : ∀ u : Nat, u < n → s.height u ≠ -1 → Hang2 es s u)
    (side : ∃ X B, Df.side n es s s.ord.length = some (X ++ W, B) ∧ (X ++ W).Nodup ∧ Rd n s (X ++ W)) (way : IsWay es s W) (edge : ∀ e, e < es.length → s.dir e ≠ -1 → Edge2 n es (s.reach v x y) e)
    (fin : ∀ u : Nat, u < n → s.height u ≠ -1 → (u : Int) ∉ W → ∀ h, h < 2 * es.length → Cs.fr es h = u → s.dir (h / 2) ≠ -1)
    (hhang : Hang2 es (s.reach v x y) v) (hup : Df.up es (s.reach v x y) v = W.headD (-1)) : Inv n es ((v : Int) :: W) (s.reach v x y) := by
  have hx := reach_ext b hv hu x y
  have hnew : (s.reach v x y).height v = y := by rw [height_reach b hv, if_pos rfl]
  have hnot : (v : Int) ∉ s.ord := fun hm => ((mem v hv).1 hm) hu
  have hoth : ∀ u : Nat, u ≠ v → (s.reach v x y).height u = s.height u := fun u e => by rw [height_reach b hv, if_neg e]
  obtain ⟨X, B, hs, hnd, hrd⟩ := side
  have hvW : (v : Int) ∉ X ++ W := fun hm => by
    obtain ⟨u, e, h1, h2⟩ := hrd _ hm
    obtain rfl : v = u := by omega
    exact h2 hu
  have hrdW : Rd n s W := fun z hz => hrd z (List.mem_append_right _ hz)
  have hatrd : ∀ i, i < s.ord.length → ∃ u : Nat, at_ s.ord i = (u : Int) ∧ u < n ∧ s.height u ≠ -1 := fun i hi => by
    have hm := at_mem hi
    have h0 := b.hd _ hm
    refine ⟨(at_ s.ord i).toNat, by omega, by omega, (mem _ (by omega)).1 ?_⟩
    rw [Int.toNat_of_nonneg h0.1]
    exact hm
  have hlen : (s.reach v x y).ord.length = s.ord.length + 1 := by simp [St.reach]
  have hat : ∀ i, i < s.ord.length → at_ (s.reach v x y).ord i = at_ s.ord i := fun i hi => at_app hi
  have hatl : at_ (s.reach v x y).ord s.ord.length = (v : Int) := at_last
  refine ⟨fun i hi j hj => ?_, fun u hun => ?_, fun u hun hr => ?_, ?_, ?_, fun e he hd => edge e he hd, fun u hun hr hn h hh hf => ?_⟩
  · rw [hlen] at hi
    by_cases e : i = s.ord.length
    · rw [e, hatl, hat j (by omega)]
      intro h
      exact hnot (h ▸ at_mem (by omega))
    · rw [hat i (by omega), hat j (by omega)]
      exact once i (by omega) j hj
  · by_cases e : u = v
    · subst e
      rw [hnew]
      exact ⟨fun _ => hy, fun _ => List.mem_append_right _ (by simp)⟩
    · rw [hoth u e, ← mem u hun]
      constructor
      · intro h
        rcases List.mem_append.1 (show (u : Int) ∈ s.ord ++ [(v : Int)] from h) with h | h
        · exact h
        · rw [List.mem_singleton] at h
          omega
      · exact fun h => List.mem_append_left _ h
  · by_cases e : u = v
    · rw [e]; exact hhang
    · rw [hoth u e] at hr
      exact Hang2.ext hx hr (hang u hun hr)
  · have hk : Df.side n es (s.reach v x y) s.ord.length = some (X ++ W, B) := by
      rw [side_ext (s := s) s.ord.length (fun j hj => ?_)]
      · exact hs
      · obtain ⟨u, e, h1, h2⟩ := hatrd j hj
        rw [hat j hj, e]
        exact ⟨rfl, hx.up h2⟩
    rw [hlen]
    have hleave : (leave (W.headD (-1)) s.ord.length (X ++ W) B).1 = W := by
      cases W with
      | nil =>
        simp only [List.headD_nil, List.append_nil]
        exact leave_none fun z hz => by
          obtain ⟨u, e, _⟩ := hrd z (by simpa using hz)
          omega
      | cons p W =>
        simp only [List.headD_cons]
        exact leave_at X W B (fun hm => (List.nodup_append.1 hnd).2.2 p hm p List.mem_cons_self rfl)
    refine ⟨[], (leave (W.headD (-1)) s.ord.length (X ++ W) B).2, ?_, ?_, ?_⟩
    · unfold Df.side
      rw [hk, Option.bind_some]
      dsimp only
      rw [hatl, hup, hleave, if_neg]
      · rfl
      · rintro ⟨h1, h2⟩
        rw [h2] at h1
        exact h1 rfl
    · refine List.nodup_cons.2 ⟨fun h => hvW (List.mem_append_right _ h), (List.nodup_append.1 hnd).2.1⟩
    · intro z hz
      rcases List.mem_cons.1 hz with rfl | hz
      · exact ⟨v, rfl, hv, by rw [hnew]; exact hy⟩
      · exact hx.rd hrdW z hz
  · exact ⟨by omega, hup, hx.way hrdW way⟩
  · have huv : u ≠ v := fun e => hn (by rw [e]; exact List.mem_cons_self)
    rw [hoth u huv] at hr
    exact hx.walked (fin u hun hr (fun hm => hn (List.mem_cons_of_mem _ hm)) h hh hf)
end

end Df
end Go.Proofs.Ytponmjipbcmlhaa

/-
  The walk gives a depth-first forest, pure: step by step, and at the end.
-/
namespace Go.Proofs.Ytponmjipbcmlhaa
namespace Df
section
variable {n r : Nat} {es : List (Int × Int)} {s s' : St} {W : List Int}

theorem side_mark {h k : Nat} : side n es (s.mark h) k = side n es s k := side_ext (s := s) (s' := s.mark h) k (fun _ _ => ⟨rfl, rfl⟩)

/-- A half-edge is walked to a new vertex. -/
theorem Inv.go {v h : Nat} (hval : Si.Val n es) (b : Bd n es r s) (i : Inv n es ((v : Int) :: W) s) (hl : h < 2 * es.length) (hf : Cs.fr es h = v) (hw : s.dir (h / 2) = -1) (hv : s.height (Cs.to es h) = -1) : Inv n es ((Cs.to es h : Int) :: (v : Int) :: W) (s.go es h) := by
  have hx := mark_ext b hl hw
  obtain ⟨hfn, ht⟩ := Cs.half_lt hval hl
  have bm := b.mark hl hw
  have hr : s.height v ≠ -1 := by
    obtain ⟨u, e, _, h2⟩ := i.rd v List.mem_cons_self
    obtain rfl : v = u := by omega
    exact h2
  have hy : s.height (Cs.fr es h) + 1 ≠ -1 := by
    have := (b.hh _ hfn).1
    omega
  have hv' : (s.mark h).height (Cs.to es h) = -1 := hv
  have hx2 := reach_ext bm ht hv' (h : Int) (s.height (Cs.fr es h) + 1)
  have hpar : at_ (s.go es h).par (Cs.to es h) = (h : Int) := by
    show at_ (s.par.set (Cs.to es h) (h : Int)) (Cs.to es h) = _
    rw [at_set (by rw [b.lp]; exact ht), if_pos rfl]
  have hnt : Cs.fr es h ≠ Cs.to es h := by
    intro e
    rw [← e, hf] at hv
    exact hr hv
  have hdir : (s.go es h).dir (h / 2) = (h : Int) := by
    show (s.mark h).dir (h / 2) = _
    rw [dir_mark b hl, if_pos rfl]
  have hht : (s.go es h).height (Cs.to es h) = s.height (Cs.fr es h) + 1 := by
    show ((s.mark h).reach (Cs.to es h) (h : Int) (s.height (Cs.fr es h) + 1)).height (Cs.to es h) = _
    rw [height_reach bm ht, if_pos rfl]
  have hhf : (s.go es h).height (Cs.fr es h) = s.height (Cs.fr es h) := by
    show ((s.mark h).reach (Cs.to es h) (h : Int) (s.height (Cs.fr es h) + 1)).height (Cs.fr es h) = _
    rw [height_reach bm ht, if_neg hnt]
    rfl
  refine Inv.new (s := s.mark h) (x := (h : Int)) (y := s.height (Cs.fr es h) + 1) bm ht hv' hy i.once i.mem (fun u hu hru => Hang2.ext hx hru (i.hang u hu hru)) ?_ (hx.way i.rd i.way) (fun e he hd => ?_) (fun u hu hru hn g hg hfg => hx.walked (i.fin u hu hru hn g hg hfg)) ?_ ?_
  · obtain ⟨X, B, h1, h2, h3⟩ := i.side
    exact ⟨X, B, side_mark.trans h1, h2, h3⟩
  · by_cases e1 : e = h / 2
    · subst e1
      exact ⟨h, by omega, hdir, .inl ⟨by rw [show ((s.mark h).reach (Cs.to es h) (h : Int) (s.height (Cs.fr es h) + 1)).height (Cs.to es h) = _ from hht]; exact hy, hpar⟩⟩
    · rw [dir_mark b hl, if_neg e1] at hd
      exact ((i.edge e he hd).ext hx).ext hx2
  · exact .inr ⟨h, hl, hpar, rfl, hdir, by rw [show ((s.mark h).reach (Cs.to es h) (h : Int) (s.height (Cs.fr es h) + 1)).height (Cs.fr es h) = _ from hhf, hf]; exact hr, by rw [show ((s.mark h).reach (Cs.to es h) (h : Int) (s.height (Cs.fr es h) + 1)).height (Cs.to es h) = _ from hht, show ((s.mark h).reach (Cs.to es h) (h : Int) (s.height (Cs.fr es h) + 1)).height (Cs.fr es h) = _ from hhf]⟩
  · show Cs.frI es (at_ (s.go es h).par ((Cs.to es h : Int)).toNat) = _
    rw [Int.toNat_natCast, hpar, Cs.frI_in hl, hf]
    rfl

/-- A root. -/
theorem Inv.root {v : Nat} (b : Bd n es r s) (i : Inv n es [] s) (hv : v < n) (hu : s.height v = -1) : Inv n es [(v : Int)] (s.reach v (-1) 0) := by
  have hx := reach_ext b hv hu (-1) 0
  have hpar : at_ (s.reach v (-1) 0).par v = -1 := by
    show at_ (s.par.set v (-1)) v = _
    rw [at_set (by rw [b.lp]; exact hv), if_pos rfl]
  refine Inv.new b hv hu (by omega) i.once i.mem i.hang i.side i.way (fun e he hd => (i.edge e he hd).ext hx) i.fin (.inl ⟨hpar, by rw [height_reach b hv, if_pos rfl]⟩) ?_
  show Cs.frI es (at_ (s.reach v (-1) 0).par ((v : Int)).toNat) = _
  rw [Int.toNat_natCast, hpar]
  exact Cs.frI_no (by omega)

/-- The vertex at which it stands is done. -/
theorem Inv.finish {v : Nat} (i : Inv n es ((v : Int) :: W) s) (hd : ∀ h, h < 2 * es.length → Cs.fr es h = v → s.dir (h / 2) ≠ -1) : Inv n es W s := by
  refine ⟨i.once, i.mem, i.hang, ?_, i.way.2.2, i.edge, fun u hu hr hn h hh hf => ?_⟩
  · obtain ⟨X, B, h1, h2, h3⟩ := i.side
    refine ⟨X ++ [(v : Int)], B, ?_, ?_, ?_⟩ <;> rw [List.append_assoc] <;> assumption
  · by_cases e : u = v
    · exact hd h hh (by rw [hf, e])
    · exact i.fin u hu hr (fun hm => (List.mem_cons.1 hm).elim (fun e1 => e (by omega)) hn) h hh hf

theorem out_all {v h : Nat} (hh : h < 2 * es.length) (hf : Cs.fr es h = v) : h ∈ Cs.out es v (2 * es.length) := List.mem_of_getElem? (Cs.out_at hh hf)
theorem out_fr {v h : Nat} (hh : h ∈ Cs.out es v (2 * es.length)) : h < 2 * es.length ∧ Cs.fr es h = v := by
  obtain ⟨j, hj⟩ := List.getElem?_of_mem hh
  exact ⟨(Cs.out_of hj).1, (Cs.out_of hj).2.1⟩

/-- The walk of the half-edges of one vertex keeps it, and walks them all. -/
theorem R.inv {k : Nat} {L : List Nat} (hval : Si.Val n es) (h : R es k s L s') : ∀ (v : Nat) (W : List Int), Bd n es r s → Inv n es ((v : Int) :: W) s → (∀ x ∈ L, x < 2 * es.length ∧ Cs.fr es x = v) → (∀ x, x < 2 * es.length → Cs.fr es x = v → x ∈ L ∨ s.dir (x / 2) ≠ -1) →
    Inv n es ((v : Int) :: W) s' ∧ Ext s s' ∧ ∀ x, x < 2 * es.length → Cs.fr es x = v → s'.dir (x / 2) ≠ -1 := by
  induction h with
  | nil s =>
    intro v W b i hL hF
    refine ⟨i, Ext.refl s, fun x hx hf => ?_⟩
    rcases hF x hx hf with h | h
    · simp at h
    · exact h
  | @old k s s' h L hw hr ih =>
    intro v W b i hL hF
    refine ih v W b i (fun x hx => hL x (List.mem_cons_of_mem _ hx)) (fun x hx hf => ?_)
    rcases hF x hx hf with h1 | h1
    · rcases List.mem_cons.1 h1 with rfl | h1
      · exact .inr hw
      · exact .inl h1
    · exact .inr h1
  | @back k s s' h L hw hv hr ih =>
    intro v W b i hL hF
    obtain ⟨hh, hf⟩ := hL h List.mem_cons_self
    have hx := mark_ext b hh hw
    obtain ⟨h1, h2, h3⟩ := ih v W (b.mark hh hw) (i.back hval b hh hf hw hv) (fun x hx => hL x (List.mem_cons_of_mem _ hx)) (fun x hxl hfx => by
      rcases hF x hxl hfx with h1 | h1
      · rcases List.mem_cons.1 h1 with rfl | h1
        · exact .inr (by rw [dir_mark b hh, if_pos rfl]; omega)
        · exact .inl h1
      · exact .inr (hx.walked h1))
    exact ⟨h1, hx.trans h2, h3⟩
  | @tree j k s s1 s' h L hw hv hr1 hr2 ih1 ih2 =>
    intro v W b i hL hF
    obtain ⟨hh, hf⟩ := hL h List.mem_cons_self
    have bg := b.go hval hh hw
    have hx : Ext s (s.go es h) := (mark_ext b hh hw).trans (reach_ext (b.mark hh hw) (Cs.half_lt hval hh).2 hv _ _)
    obtain ⟨i1, x1, d1⟩ := ih1 (Cs.to es h) ((v : Int) :: W) bg (i.go hval b hh hf hw hv) (fun x hx => out_fr hx) (fun x hxl hfx => .inl (out_all hxl hfx))
    have hx1 := hx.trans x1
    obtain ⟨h1, h2, h3⟩ := ih2 v W (hr1.bd hval out_half bg) (i1.finish d1) (fun x hx => hL x (List.mem_cons_of_mem _ hx)) (fun x hxl hfx => by
      rcases hF x hxl hfx with h1 | h1
      · rcases List.mem_cons.1 h1 with rfl | h1
        · refine .inr ?_
          have : (s.go es x).dir (x / 2) = (x : Int) := by
            show (s.mark x).dir (x / 2) = _
            rw [dir_mark b hh, if_pos rfl]
          rw [x1.dir _ (by rw [this]; omega), this]
          omega
        · exact .inl h1
      · exact .inr (hx1.walked h1))
    exact ⟨h1, hx1.trans h2, h3⟩

theorem getD_rep (m v : Nat) : (List.replicate m (-1 : Int)).getD v (-1) = -1 := by
  rw [List.getD_eq_getElem?_getD, List.getElem?_replicate]
  split <;> rfl

theorem Wk.inv (hval : Si.Val n es) {i : Nat} (h : Wk n es i s) : i ≤ n → Inv n es [] s ∧ ∀ v, v < i → s.height v ≠ -1 := by
  induction h with
  | zero =>
    intro _
    have hh : ∀ v, (St.start n es.length).height v = -1 := fun v => getD_rep n v
    have hd : ∀ e, (St.start n es.length).dir e = -1 := fun e => getD_rep es.length e
    refine ⟨⟨fun i hi => absurd hi (by simp [St.start]), fun v hv => ?_, fun v hv h => absurd (hh v) h, ⟨[], _, rfl, by simp, fun x hx => absurd hx (by simp)⟩, trivial, fun e he h => absurd (hd e) h, fun v hv h => absurd (hh v) h⟩, fun v hv => absurd hv (by omega)⟩
    constructor
    · intro h; simp [St.start] at h
    · exact fun h => absurd (hh v) h
  | @pass i s h hv ih =>
    intro hi
    obtain ⟨h1, h2⟩ := ih (by omega)
    refine ⟨h1, fun v hvi => ?_⟩
    by_cases e : v = i
    · rw [e]; exact hv
    · exact h2 v (by omega)
  | @walk i k s s' h hv hr ih =>
    intro hi
    obtain ⟨h1, h2⟩ := ih (by omega)
    have b := h.bd hval (by omega)
    have hx := reach_ext b (by omega : i < n) hv (-1) 0
    obtain ⟨i1, x1, d1⟩ := hr.inv hval i [] (b.root (by omega)) (h1.root b (by omega) hv) (fun x hx => out_fr hx) (fun x hxl hfx => .inl (out_all hxl hfx))
    refine ⟨i1.finish d1, fun v hvi => ?_⟩
    by_cases e : v = i
    · rw [e]
      refine x1.reached ?_
      rw [height_reach b (by omega), if_pos rfl]
      omega
    · exact (hx.trans x1).reached (h2 v (by omega))

theorem at_get {l : List Int} {i : Nat} (hi : i < l.length) : at_ l i = l[i] := by
  unfold at_
  rw [List.getD_eq_getElem?_getD, List.getElem?_eq_getElem hi]
  rfl

/-- The walk of a valid graph is a depth-first forest of it. -/
theorem Wk.vf (hval : Si.Val n es) (h : Wk n es n s) : VF n es s := by
  obtain ⟨i, hall⟩ := h.inv hval (Nat.le_refl _)
  have b := h.bd hval (Nat.le_refl _)
  have hfew := hval.few
  have hnod : s.ord.Nodup := by
    unfold List.Nodup
    rw [List.pairwise_iff_getElem]
    intro a c ha hc hac
    have := i.once c hc a hac
    rw [at_get ha, at_get hc] at this
    exact this
  have hperm : s.ord.Perm ((List.range n).map Int.ofNat) := by
    rw [List.perm_ext_iff_of_nodup hnod]
    · intro x
      constructor
      · intro hx
        have := b.hd x hx
        exact List.mem_map.2 ⟨x.toNat, List.mem_range.2 (by omega), by simp; omega⟩
      · intro hx
        obtain ⟨v, hv, rfl⟩ := List.mem_map.1 hx
        exact (i.mem v (List.mem_range.1 hv)).2 (hall v (List.mem_range.1 hv))
    · rw [List.nodup_iff_pairwise_ne, List.pairwise_map]
      refine List.Pairwise.imp ?_ List.nodup_range
      intro a c hac e
      exact hac (Int.ofNat.inj e)
  have hlen : s.ord.length = n := by rw [hperm.length_eq]; simp
  refine ⟨⟨b.lp, b.lh, hlen, b.lo⟩, fun a ha => ⟨?_, fun j hj => i.once a (by omega) j hj⟩, fun v hv => ?_, ?_, fun e he => ?_⟩
  · exact b.hd _ (at_mem (by omega))
  · rcases i.hang v hv (hall v hv) with h1 | ⟨x, h1, h2, h3, h4, h5, h6⟩
    · exact .inl h1
    · refine .inr ⟨x, h1, h2, h3, h4, ?_⟩
      have h7 := b.hh _ (Cs.half_lt hval h1).1
      rw [IntKind.wrap_i64]
      show s.height v = _
      rw [h6]
      have e : at_ s.hei (Cs.fr es x) = s.height (Cs.fr es x) := rfl
      rw [e]
      omega
  · obtain ⟨X, B, h1, _, _⟩ := i.side
    rw [hlen] at h1
    exact ⟨_, h1⟩
  · have h2 : 2 * e < 2 * es.length := by omega
    have hf := (Cs.half_lt hval h2).1
    have hd := i.fin _ hf (hall _ hf) (by simp) (2 * e) h2 rfl
    rw [show 2 * e / 2 = e by omega] at hd
    obtain ⟨x, h3, h4, h5⟩ := i.edge e he hd
    refine ⟨x, h3, h4, ?_⟩
    rcases h5 with ⟨_, h6⟩ | ⟨Y, h6, h7, _⟩
    · exact .inl h6
    · exact .inr ⟨Y, h6, h7⟩
end
end Df
end Go.Proofs.Ytponmjipbcmlhaa
