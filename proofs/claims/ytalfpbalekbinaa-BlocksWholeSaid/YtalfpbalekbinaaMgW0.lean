import Derived.Test.YtalfpbalekbinaaMg10
import Derived.Test.YtalfpbalekbinaaMg11
import Derived.Test.YtalfpbalekbinaaBlTr
/-
  Blocks, pure: within a block alone the steps from an edge up to its head can be gone.
-/
namespace Go.Proofs.Ytalfpbalekbinaa
namespace Bl
open Df Lo

/-- No edge of the block with head c that does not end at v leads out of S, or in. -/
def ShutC (es : List (Int × Int)) (s : St) (c v : Nat) (S : Nat → Prop) : Prop := ∀ k, HD es s k c → fr es s k ≠ v → go_ es s k ≠ v → (S (fr es s k) ↔ S (go_ es s k))

section
variable {n : Nat} {es : List (Int × Int)} {s : St} {v c : Nat}

theorem way_connC (h : VF n es s) {S : Nat → Prop} (hS : ShutC es s c v S) {a : Nat} (hav : a ≠ v) : ∀ (X : List Int) (Y : List Int) (u : Nat), (∀ x ∈ (u : Int) :: X, ∃ z : Nat, z < n ∧ x = (z : Int)) → IsWay es s ((u : Int) :: X ++ (a : Int) :: Y) → (∀ x ∈ (u : Int) :: X, x ≠ (v : Int)) → (∀ t, t < es.length → tree es s t = true → (go_ es s t : Int) ∈ (u : Int) :: X → HD es s t c) → (S u ↔ S a)
  | [], Y, u, hr, hw, hne, hC => by
    obtain ⟨z, hz, hzu⟩ := hr u List.mem_cons_self
    have hup : Df.up es s u = (a : Int) := hw.2.1
    obtain ⟨k, hk, htk, hgk, hfk⟩ := hang_edge h (x := u) (by omega) hup (by omega)
    have huv := hne u List.mem_cons_self
    have := hS k (hC k hk htk (by rw [hgk]; exact List.mem_cons_self)) (by omega) (by omega)
    rw [hgk, show fr es s k = a by omega] at this
    exact this.symm
  | y :: X, Y, u, hr, hw, hne, hC => by
    obtain ⟨z, hz, hzu⟩ := hr u List.mem_cons_self
    obtain ⟨q, hq, rfl⟩ := hr y (List.mem_cons_of_mem _ List.mem_cons_self)
    have hup : Df.up es s u = (q : Int) := hw.2.1
    obtain ⟨k, hk, htk, hgk, hfk⟩ := hang_edge h (x := u) (by omega) hup (by omega)
    have huv := hne u List.mem_cons_self
    have hqv := hne q (List.mem_cons_of_mem _ List.mem_cons_self)
    have h1 := hS k (hC k hk htk (by rw [hgk]; exact List.mem_cons_self)) (by omega) (by omega)
    rw [hgk, show fr es s k = q by omega] at h1
    have h2 := way_connC h hS hav X Y q (fun x hx => hr x (List.mem_cons_of_mem _ hx)) hw.2.2 (fun x hx => hne x (List.mem_cons_of_mem _ hx)) (fun t h1 h2 h3 => hC t h1 h2 (List.mem_cons_of_mem _ h3))
    exact h1.symm.trans h2

/-- From u up to a vertex above it, if v does not stand between and the edges between are of the block. -/
theorem up_connC (h : VF n es s) {S : Nat → Prop} (hS : ShutC es s c v S) {a u : Nat} (hu : u < n) (ha : Anc es s a u) (hne : ∀ x : Nat, Anc es s a x → Anc es s x u → x ≠ v) (hC : ∀ t, t < es.length → tree es s t = true → Anc es s (go_ es s t) u → Anc es s a (go_ es s t) → go_ es s t ≠ a → HD es s t c) : S u ↔ S a := by
  obtain ⟨Y, hw, hnd, hr⟩ := way_up h hu
  have hm := (Anc.iff hw).1 ha
  obtain ⟨X, Z, hXZ⟩ := List.append_of_mem hm
  have haa : Anc es s a a := by
    have hw2 := hw
    rw [hXZ] at hw2
    exact ⟨Z, hw2.tail, by simp⟩
  have hav : a ≠ v := hne a haa ha
  cases X with
  | nil =>
    have : (u : Int) = (a : Int) := by
      simp at hXZ
      omega
    rw [show u = a by omega]
  | cons x0 X =>
    have hx0 : x0 = (u : Int) := by
      simp at hXZ
      exact hXZ.1.symm
    subst hx0
    have hw2 := hw
    rw [hXZ] at hw2
    have hb : ∀ x : Int, x ∈ (u : Int) :: X → ∀ q : Nat, x = (q : Int) → Anc es s a q ∧ Anc es s q u ∧ q ≠ a := fun x hx q e1 => by
      obtain ⟨X1, X2, hX12⟩ := List.append_of_mem hx
      have hway : IsWay es s (x :: (X2 ++ (a : Int) :: Z)) := by
        have hw3 := hw2
        rw [hX12, List.append_assoc] at hw3
        exact hw3.tail
      rw [e1] at hway
      refine ⟨⟨_, hway, by simp⟩, ⟨Y, hw, by rw [hXZ, ← e1]; exact List.mem_append_left _ hx⟩, fun e2 => ?_⟩
      rw [hXZ, List.nodup_append] at hnd
      exact hnd.2.2 x hx (a : Int) List.mem_cons_self (by rw [e1, e2])
    refine way_connC h hS hav X Z u (fun x hx => hr x (by rw [hXZ]; exact List.mem_append_left _ hx)) hw2 (fun x hx e1 => ?_) (fun t h1 h2 h3 => ?_)
    · obtain ⟨h4, h5, _⟩ := hb x hx v e1
      exact hne v h4 h5 rfl
    · obtain ⟨h4, h5, h6⟩ := hb _ h3 _ rfl
      exact hC t h1 h2 h5 h4 h6

/-- The tree edges between an edge that returns and where it returns to are of its block. -/
theorem ret_block (hv : Si.Val n es) (h : VF n es s) {b : Nat} (hb : b < es.length) (tb : tree es s b = false) (hd : HD es s b c) : ∀ (d t : Nat), t < es.length → tree es s t = true → Anc es s (go_ es s t) (fr es s b) → Anc es s (go_ es s b) (go_ es s t) → go_ es s t ≠ go_ es s b → at_ s.hei (fr es s b) ≤ at_ s.hei (go_ es s t) + (d : Int) → HD es s t c := by
  intro d
  induction d with
  | zero =>
    intro t ht tt ha hab hne hle
    obtain ⟨hbf, hbg⟩ := ends_lt hv h hb
    obtain ⟨htf, htg⟩ := ends_lt hv h ht
    by_cases e : go_ es s t = fr es s b
    · cases hd with
      | self _ hh => exact absurd (tb.symm.trans hh.1) (by decide)
      | up _ _ hp tp gp h3 => rw [tree_one h ht hp tt tp (e.trans gp.symm)]; exact h3
    · have := anc_height hv h.once h.hang h.side hbf e ha
      omega
  | succ d ih =>
    intro t ht tt ha hab hne hle
    obtain ⟨hbf, hbg⟩ := ends_lt hv h hb
    obtain ⟨htf, htg⟩ := ends_lt hv h ht
    by_cases e : go_ es s t = fr es s b
    · cases hd with
      | self _ hh => exact absurd (tb.symm.trans hh.1) (by decide)
      | up _ _ hp tp gp h3 => rw [tree_one h ht hp tt tp (e.trans gp.symm)]; exact h3
    · obtain ⟨t', ht', tt', hf', ha'⟩ := child_of h hbf ha e
      have hup := (tree_up hv h ht' tt').2
      have hh1 := anc_height hv h.once h.hang h.side htg (fun e => hne e.symm) hab
      have e1 : Lo.ht es s t' = at_ s.hei (go_ es s t') := rfl
      have e2 : hf es s t' = at_ s.hei (go_ es s t) := by unfold hf; rw [hf']
      have e3 : Lo.ht es s b = at_ s.hei (go_ es s b) := rfl
      have hlow := low_le_ht tt' hb tb ha'
      have h4 := ih t' ht' tt' ha' (anc_trans hab (by rw [← hf']; exact child_anc hv h ht' tt')) (fun e => by rw [e] at e1; omega) (by omega)
      cases h4 with
      | self _ hh => exact absurd hh.2 (by omega)
      | up _ _ hp tp gp h5 => rw [tree_one h ht hp tt tp (hf'.symm.trans gp.symm)]; exact h5

/-- An edge of a block that is no head, and the edge by which its beginning hangs: on one cycle of the block. -/
theorem up_pairC (hv : Si.Val n es) (h : VF n es s) {k p : Nat} (hk : k < es.length) (hn : ¬ head es s k) (hkc : HD es s k c) (hp : p < es.length) (tp : tree es s p = true) (gp : go_ es s p = fr es s k) {S : Nat → Prop} (hS : ShutC es s c (fr es s k) S) : S (go_ es s k) ↔ S (fr es s p) := by
  obtain ⟨hkf, hkg⟩ := ends_lt hv h hk
  obtain ⟨hpf, hpg⟩ := ends_lt hv h hp
  have hnb := not_below hv h hp tp
  rw [gp] at hnb
  have hcp := child_anc hv h hp tp
  rw [gp] at hcp
  have hpar : ∀ a : Nat, Anc es s a (fr es s k) → a ≠ fr es s k → Anc es s a (fr es s p) := fun a ha hne => anc_parent hv h hp tp (by rw [gp]; exact ha) (by rw [gp]; exact hne)
  -- with an edge b of the block that returns from at or below the beginning of k to above it
  have hup : ∀ b, b < es.length → tree es s b = false → HD es s b c → Anc es s (fr es s k) (fr es s b) → Anc es s (go_ es s b) (fr es s k) → go_ es s b ≠ fr es s k → (S (fr es s p) ↔ S (go_ es s b)) := fun b hb tb hbc h1 h2 h3 => by
    obtain ⟨hbf, hbg⟩ := ends_lt hv h hb
    refine up_connC h hS hpf (hpar _ h2 h3) (fun x _ hx e => hnb (by rw [← e]; exact hx)) (fun t ht tt h4 h5 h6 => ?_)
    have hd := (rooted_of hv h.once h.hang h.side _ hbf).2.1
    have hd2 := (rooted_of hv h.once h.hang h.side _ (ends_lt hv h ht).2).1
    exact ret_block hv h hb tb hbc n t ht tt (anc_trans (anc_trans h4 hcp) h1) h5 h6 (by omega)
  cases tk : tree es s k with
  | false =>
    exact (hup k hk tk hkc (anc_self h hkf) (back_anc h hk tk) (ends_ne hv h hk)).symm
  | true =>
    have hlow : low es s k < hf es s k := by
      by_cases hl : hf es s k ≤ low es s k
      · exact absurd ⟨tk, hl⟩ hn
      · omega
    rcases least_mem (hf es s k) (hs es s k) with h2 | h2
    · have h3 : low es s k = hf es s k := h2
      omega
    · obtain ⟨b, hb, hb2⟩ := List.mem_map.1 h2
      have hb3 : Lo.ht es s b = low es s k := hb2
      obtain ⟨b1, b2, b3, b4⟩ := (mem_rets_tree tk).1 hb
      obtain ⟨hbf, hbg⟩ := ends_lt hv h b1
      have hkh := (tree_up hv h hk tk).2
      have hnk := not_below hv h hk tk
      have hne : ∀ x : Nat, Anc es s (go_ es s k) x → x ≠ fr es s k := fun x hx e => hnk (by rw [← e]; exact hx)
      have hbgv : go_ es s b ≠ fr es s k := fun e => by
        have : Lo.ht es s b = hf es s k := by unfold Lo.ht hf; rw [e]
        omega
      have hbb := back_anc h b1 b2
      have hkb : Anc es s (fr es s k) (fr es s b) := anc_trans (child_anc hv h hk tk) b4
      have hab : Anc es s (go_ es s b) (fr es s k) := anc_cmp hv h hbf hbg hbb hkb (by unfold Lo.ht hf at b3; omega)
      have habk : Anc es s (go_ es s b) (go_ es s k) := anc_trans hab (child_anc hv h hk tk)
      have hd := (rooted_of hv h.once h.hang h.side _ hbf).2.1
      have e1 : Lo.ht es s b = at_ s.hei (go_ es s b) := rfl
      have e2 : Lo.ht es s k = at_ s.hei (go_ es s k) := rfl
      -- b is of the block
      have hbc : HD es s b c := by
        have h5 := hdf_of hv h b1
        have h6 := ret_block hv h b1 b2 h5 n k hk tk b4 habk (fun e => by rw [e] at e2; omega) (by have := (rooted_of hv h.once h.hang h.side _ hkg).1; omega)
        rw [hkc.unique h h6]
        exact h5
      have h4 : S (fr es s b) ↔ S (go_ es s k) := up_connC h hS hbf b4 (fun x hx _ => hne x hx) (fun t ht tt h5 h6 h7 => by
        have hth := anc_height hv h.once h.hang h.side (ends_lt hv h ht).2 (fun e => h7 e.symm) h6
        exact ret_block hv h b1 b2 hbc n t ht tt h5 (anc_trans habk h6) (fun e => by rw [e] at hth; omega) (by have := (rooted_of hv h.once h.hang h.side _ (ends_lt hv h ht).2).1; omega))
      have h5 := hS b hbc (hne _ b4) hbgv
      exact h4.symm.trans (h5.trans (hup b b1 b2 hbc hkb hab hbgv).symm)
end
end Bl
end Go.Proofs.Ytalfpbalekbinaa

/-
  Blocks, pure: a block as a graph of its own is valid, and one block.
-/
namespace Go.Proofs.Ytalfpbalekbinaa
namespace Bl
open Df Lo

section
variable {n : Nat} {es : List (Int × Int)} {s : St} {f : Nat → Nat} {kk : Nat}

theorem vsTo_rising (k : Int) (j : Nat) : (vsTo es f k j).Pairwise (fun a b => a < b) := by
  unfold vsTo
  rw [List.pairwise_map]
  exact (range_rising _ _).imp fun h => by omega
theorem place_up {l : List Int} (hl : l.Pairwise (fun a b => a < b)) {x y : Int} (hx : x ∈ l) (hy : y ∈ l) (h : x < y) : place l x < place l y := by
  obtain ⟨i, h1, h2⟩ := place_mem hx
  obtain ⟨j, h3, h4⟩ := place_mem hy
  obtain ⟨hi, e1⟩ := List.getElem?_eq_some_iff.1 h1
  obtain ⟨hj, e2⟩ := List.getElem?_eq_some_iff.1 h3
  rcases Nat.lt_trichotomy i j with hlt | rfl | hlt
  · omega
  · omega
  · have := List.pairwise_iff_getElem.1 hl j i hj hi hlt
    omega
theorem place_range {l : List Int} {x : Int} (hx : x ∈ l) : 0 ≤ place l x ∧ place l x < (l.length : Int) := by
  obtain ⟨i, h1, h2⟩ := place_mem hx
  have := (List.getElem?_eq_some_iff.1 h1).1
  omega
theorem place_inj {l : List Int} {x y : Int} (hx : x ∈ l) (hy : y ∈ l) (h : place l x = place l y) : x = y := by
  obtain ⟨i, h1, h2⟩ := place_mem hx
  obtain ⟨j, h3, h4⟩ := place_mem hy
  obtain rfl : i = j := by omega
  rw [h1] at h3
  exact Option.some.inj h3

/-- An edge of a block's graph. -/
theorem bk_at {vs : List Int} {j : Nat} {q : Int × Int} (h : (bkTo es f vs kk es.length)[j]? = some q) : ∃ e p, es[e]? = some p ∧ f e = kk ∧ q = nmE vs p ∧ j = Co.cntTo (fun e => decide (f e = kk)) e := by
  unfold bkTo at h
  rw [List.getElem?_map] at h
  cases he : ((List.range es.length).filter fun e => decide (f e = kk))[j]? with
  | none => rw [he] at h; cases h
  | some e =>
    rw [he] at h
    obtain ⟨h1, h2, h3⟩ := filter_at _ _ _ _ he
    obtain ⟨p, hp⟩ := edge_of (es := es) h2
    refine ⟨e, p, hp, by simpa using h3, ?_, h1⟩
    have := Option.some.inj h
    dsimp only at this
    rw [List.getD_eq_getElem?_getD, hp] at this
    exact this.symm
/-- Where an edge of the block stands. -/
theorem bk_of {vs : List Int} {e : Nat} {p : Int × Int} (hp : es[e]? = some p) (hf : f e = kk) : (bkTo es f vs kk es.length)[Co.cntTo (fun e => decide (f e = kk)) e]? = some (nmE vs p) := by
  unfold bkTo
  rw [List.getElem?_map, filter_get (fun e => decide (f e = kk)) (List.getElem?_eq_some_iff.1 hp).1 (by simpa using hf)]
  simp [List.getD_eq_getElem?_getD, hp]
theorem cntTo_strict {q : Nat → Bool} {a b : Nat} (h : Co.cntTo q a < Co.cntTo q b) : a < b := by
  rcases Nat.lt_or_ge a b with h1 | h1
  · exact h1
  · exfalso
    have : Co.cntTo q b ≤ Co.cntTo q a := by
      clear h
      induction a with
      | zero =>
        have : b = 0 := by omega
        rw [this]
        exact Nat.le_refl _
      | succ a ih =>
        by_cases e : b = a + 1
        · rw [e]
          exact Nat.le_refl _
        · have := ih (by omega)
          rw [Co.cntTo]
          omega
    omega

/-- A block is a valid graph. -/
theorem bk_val (hv : Si.Val n es) : Si.Val ((vsTo es f (kk : Int) n).length : Nat) (bkTo es f (vsTo es f (kk : Int) n) kk es.length) := by
  have hhi := hv.hi
  have hfew := hv.few
  have hl := vsTo_length (es := es) (f := f) (kk : Int) n
  refine ⟨by omega, by omega, Nat.le_trans (bkTo_length _ _ _) hfew, fun j q hq => ?_, fun j q q' hq hq' => ?_⟩
  · obtain ⟨e, p, hp, hf, rfl, _⟩ := bk_at hq
    have hok := hv.each e p hp
    unfold Si.ok at hok ⊢
    obtain ⟨h1, h2⟩ := ends_in hv hp hf
    have := place_up (vsTo_rising _ _) h1 h2 (by omega)
    have := place_range h1
    have := place_range h2
    unfold nmE
    dsimp only
    omega
  · obtain ⟨e, p, hp, hf, rfl, h1⟩ := bk_at hq
    obtain ⟨e', p', hp', hf', rfl, h2⟩ := bk_at hq'
    have hlt := hv.mono e' e p p' (cntTo_strict (q := fun e => decide (f e = kk)) (by omega)) hp hp'
    obtain ⟨a1, a2⟩ := ends_in hv hp hf
    obtain ⟨b1, b2⟩ := ends_in hv hp' hf'
    unfold Si.lt at hlt ⊢
    unfold nmE
    dsimp only
    rcases hlt with hlt | ⟨e1, hlt⟩
    · exact .inl (place_up (vsTo_rising _ _) a1 b1 hlt)
    · exact .inr ⟨by rw [e1], place_up (vsTo_rising _ _) a2 b2 hlt⟩
end

section
variable {n : Nat} {es : List (Int × Int)} {s : St} {kk : Nat}

/-- All edges of a block are joined by pairs of the block's graph. -/
theorem bk_joined (hv : Si.Val n es) (h : VF n es s) {c : Nat} (hck : no9 es c = kk) {e : Nat} (he : HD es s e c) :
    Same9 (bkTo es (no9 es) (vsTo es (no9 es) (kk : Int) n) kk es.length) (Co.cntTo (fun e => decide (no9 es e = kk)) e) (Co.cntTo (fun e => decide (no9 es e = kk)) c) := by
  obtain ⟨vs, hvs⟩ : ∃ vs, vsTo es (no9 es) (kk : Int) n = vs := ⟨_, rfl⟩
  have hin : ∀ e p, es[e]? = some p → no9 es e = kk → p.1 ∈ vs ∧ p.2 ∈ vs := fun e p hp hf => by rw [← hvs]; exact ends_in hv hp hf
  have hno : ∀ e, HD es s e c → no9 es e = kk := fun e hd => by
    rw [← hck]
    exact (no9_hdf hv h hd.lt.1 hd.lt.2.1).2 (by rw [hdf_eq hv h hd, head_hdf hv h hd.lt.2.1 hd.lt.2.2])
  rw [hvs]
  intro g hg
  induction he with
  | self => rfl
  | @up k p c hk hn hp tp gp hd ih =>
    rw [← ih hck hno]
    have hkc : HD es s k c := .up hk hn hp tp gp hd
    obtain ⟨qk, hqk⟩ := edge_of hk
    obtain ⟨qp, hqp⟩ := edge_of hp
    have nk := hno k hkc
    have np := hno p hd
    obtain ⟨k1, k2, _, _⟩ := ends_at hv hqk
    obtain ⟨p1, p2, _, _⟩ := ends_at hv hqp
    obtain ⟨ik1, ik2⟩ := hin k qk hqk nk
    obtain ⟨ip1, ip2⟩ := hin p qp hqp np
    have hnek := ends_ne hv h hk
    have hnep := ends_ne hv h hp
    -- a vertex by its place
    obtain ⟨P, hP⟩ : ∃ P : Nat → Nat, P = fun x : Nat => (place vs (x : Int)).toNat := ⟨_, rfl⟩
    have hPe : ∀ x : Nat, (x : Int) ∈ vs → (P x : Int) = place vs (x : Int) := fun x hx => by
      rw [hP]
      have := place_range hx
      dsimp only
      omega
    have hPi : ∀ x y : Nat, (x : Int) ∈ vs → (y : Int) ∈ vs → P x = P y → x = y := fun x y hx hy e => by
      have h1 := hPe x hx
      have h2 := hPe y hy
      have := place_inj hx hy (by omega)
      omega
    have hends : ∀ e q, es[e]? = some q → HD es s e c → (eU es e : Int) ∈ vs ∧ (eV es e : Int) ∈ vs ∧ nmE vs q = ((P (eU es e) : Int), (P (eV es e) : Int)) := fun e q hq hdd => by
      obtain ⟨a1, a2, _⟩ := ends_at hv hq
      obtain ⟨b1, b2⟩ := hin e q hq (hno e hdd)
      rw [a1] at b1
      rw [a2] at b2
      refine ⟨b1, b2, ?_⟩
      unfold nmE
      rw [hPe _ b1, hPe _ b2, ← a1, ← a2]
    have hfg : ∀ e, HD es s e c → (fr es s e : Int) ∈ vs ∧ (go_ es s e : Int) ∈ vs := fun e hdd => by
      obtain ⟨q, hq⟩ := edge_of hdd.lt.1
      obtain ⟨b1, b2, _⟩ := hends e q hq hdd
      rcases ends_two h hdd.lt.1 with ⟨a, b⟩ | ⟨a, b⟩ <;> rw [a, b]
      · exact ⟨b1, b2⟩
      · exact ⟨b2, b1⟩
    have hconn : ConnE (bkTo es (no9 es) vs kk es.length) (P (fr es s k) : Int) (P (go_ es s k)) (P (fr es s p)) := fun S' hS' => by
      refine up_pairC hv h hk hn hkc hp tp gp (S := fun x => S' (P x)) fun e hdd h1 h2 => ?_
      obtain ⟨q, hq⟩ := edge_of hdd.lt.1
      obtain ⟨b1, b2, hnm⟩ := hends e q hq hdd
      have hmem : ((P (eU es e) : Int), (P (eV es e) : Int)) ∈ bkTo es (no9 es) vs kk es.length := by
        rw [← hnm]
        exact List.mem_of_getElem? (bk_of hq (hno e hdd))
      have hfk := (hfg k hkc).1
      rcases ends_two h hdd.lt.1 with ⟨a, b⟩ | ⟨a, b⟩
      · rw [a] at h1 ⊢
        rw [b] at h2 ⊢
        exact hS' _ _ hmem (fun e => h1 (hPi _ _ b1 hfk (by omega))) (fun e => h2 (hPi _ _ b2 hfk (by omega)))
      · rw [a] at h1 ⊢
        rw [b] at h2 ⊢
        exact (hS' _ _ hmem (fun e => h2 (hPi _ _ b1 hfk (by omega))) (fun e => h1 (hPi _ _ b2 hfk (by omega)))).symm
    -- the two edges meet there
    have hlt : ∀ e, HD es s e c → Co.cntTo (fun e => decide (no9 es e = kk)) e < (bkTo es (no9 es) vs kk es.length).length := fun e hdd => by
      obtain ⟨q, hq⟩ := edge_of hdd.lt.1
      exact (List.getElem?_eq_some_iff.1 (bk_of (vs := vs) hq (hno e hdd))).1
    obtain ⟨c1, c2, hnk⟩ := hends k qk hqk hkc
    obtain ⟨d1, d2, hnp⟩ := hends p qp hqp hd
    refine hg _ _ (P (fr es s k)) (hlt k hkc) (hlt p hd) ⟨_, _, bk_of hqk nk, bk_of hqp np, ?_, ?_, ?_⟩
    · rw [hnk]
      dsimp only
      rcases ends_two h hk with ⟨a, b⟩ | ⟨a, b⟩ <;> rw [a] <;> simp
    · rw [hnp]
      dsimp only
      rw [← gp]
      rcases ends_two h hp with ⟨a, b⟩ | ⟨a, b⟩ <;> rw [b] <;> simp
    · have o1 : (othE (nmE vs qk) (P (fr es s k))).toNat = P (go_ es s k) := by
        rw [hnk]
        unfold othE
        rcases ends_two h hk with ⟨a, b⟩ | ⟨a, b⟩
        · rw [a, b, if_pos rfl]
          simp
        · rw [a, b] at hnek
          rw [a, b, if_neg (fun e => hnek (hPi _ _ c1 c2 (by dsimp only at e; omega)))]
          simp
      have o2 : (othE (nmE vs qp) (P (fr es s k))).toNat = P (fr es s p) := by
        rw [hnp, ← gp]
        unfold othE
        rcases ends_two h hp with ⟨a, b⟩ | ⟨a, b⟩
        · rw [a, b] at hnep
          rw [a, b, if_neg (fun e => hnep (hPi _ _ d2 d1 (by dsimp only at e; omega)))]
          simp
        · rw [a, b, if_pos rfl]
          simp
      rw [o1, o2]
      exact hconn

/-- A block's graph is one block. -/
theorem bk_one (hv : Si.Val n es) (h : VF n es s) (hk : kk < ct9 es) : 0 < (bkTo es (no9 es) (vsTo es (no9 es) (kk : Int) n) kk es.length).length ∧ ∀ j, j < (bkTo es (no9 es) (vsTo es (no9 es) (kk : Int) n) kk es.length).length → m9 (bkTo es (no9 es) (vsTo es (no9 es) (kk : Int) n) kk es.length) j = 0 := by
  -- an edge of the block
  obtain ⟨e0, he0, hn0⟩ : ∃ e0, e0 < es.length ∧ no9 es e0 = kk := by
    have hlen : ((List.range es.length).filter fun i => decide (m9 es i = i)).length = ct9 es := filter_len _ _
    obtain ⟨t, ht⟩ : ∃ t, ((List.range es.length).filter fun i => decide (m9 es i = i))[kk]? = some t := ⟨_, List.getElem?_eq_getElem (by omega)⟩
    obtain ⟨h1, h2, h3⟩ := filter_at _ _ _ _ ht
    refine ⟨t, h2, ?_⟩
    have h3 : m9 es t = t := by simpa using h3
    unfold no9 numB
    rw [h3, h1]
    rfl
  have hd0 := hdf_of hv h he0
  have hc := hd0.lt.2.1
  have hck : no9 es (hdf es s e0) = kk := by
    rw [← hn0]
    exact (no9_hdf hv h hc he0).2 (by rw [head_hdf hv h hc hd0.lt.2.2])
  have hall : ∀ j, j < (bkTo es (no9 es) (vsTo es (no9 es) (kk : Int) n) kk es.length).length → Same9 (bkTo es (no9 es) (vsTo es (no9 es) (kk : Int) n) kk es.length) j (Co.cntTo (fun e => decide (no9 es e = kk)) (hdf es s e0)) := fun j hj => by
    obtain ⟨e, p, hp, hf, _, h1⟩ := bk_at (List.getElem?_eq_getElem hj)
    have hel := (List.getElem?_eq_some_iff.1 hp).1
    rw [h1]
    have hde := hdf_of hv h hel
    have hhd : hdf es s e = hdf es s e0 := (no9_hdf hv h hel he0).1 (by rw [hf, hn0])
    rw [hhd] at hde
    exact bk_joined hv h hck hde
  obtain ⟨p0, hp0⟩ := edge_of he0
  have hpos : 0 < (bkTo es (no9 es) (vsTo es (no9 es) (kk : Int) n) kk es.length).length := Nat.lt_of_le_of_lt (Nat.zero_le _) (List.getElem?_eq_some_iff.1 (bk_of (vs := vsTo es (no9 es) (kk : Int) n) hp0 hn0)).1
  refine ⟨hpos, fun j hj => ?_⟩
  have := m9_le hpos ((hall 0 hpos).trans (hall j hj).symm)
  omega
end

/-- A graph of one block. -/
theorem one_block {H : List (Int × Int)} (h0 : 0 < H.length) (h : ∀ j, j < H.length → m9 H j = 0) (N : Nat) : ct9 H = 1 ∧ cutsTo H (no9 H) (ct9 H) N = [] ∧ ((brTo (no9 H) H.length H.length).length ≠ 0 ↔ H.length = 1) := by
  have h1 : ct9 H = 1 := by
    unfold ct9
    rw [cntB_eq, Co.cntTo_congr H.length (q := fun i => decide (i = 0)) (fun i hi => by rw [h i hi]; simp [eq_comm]), Co.cntTo_one, if_pos h0]
  have h2 : ∀ j, j < H.length → no9 H j = 0 := fun j hj => by
    unfold no9 numB
    rw [h j hj]
    rfl
  refine ⟨h1, ?_, ?_⟩
  · unfold cutsTo
    rw [h1]
    have : (List.range N).filter (fun v : Nat => decide (1 < inB H (no9 H) (v : Int) 1)) = [] := List.filter_eq_nil_iff.2 fun v _ => by
      have := inB_le H (no9 H) (v : Int) 1
      simp
      omega
    rw [this]
    rfl
  · classical
    unfold brTo
    rw [List.length_map]
    constructor
    · intro hne
      obtain ⟨i, hi⟩ := List.exists_mem_of_length_pos (Nat.pos_of_ne_zero hne)
      rw [List.mem_filter, List.mem_range] at hi
      unfold lone at hi
      have hL := of_decide_eq_true hi.2
      by_cases e : H.length = 1
      · exact e
      · exfalso
        have hx : ∃ x, x < H.length ∧ x ≠ i := by
          by_cases e0 : i = 0
          · exact ⟨1, by omega, by omega⟩
          · exact ⟨0, by omega, fun e => e0 e.symm⟩
        obtain ⟨x, hx1, hx2⟩ := hx
        exact hL x hx1 hx2 (by rw [h2 x hx1, h2 i hi.1])
    · intro e hz
      have hm : (0 : Nat) ∈ (List.range H.length).filter fun i => lone (no9 H) i H.length := by
        rw [List.mem_filter, List.mem_range]
        exact ⟨h0, by unfold lone; exact decide_eq_true fun k hk hne => by omega⟩
      rw [List.length_eq_zero_iff.1 hz] at hm
      cases hm
end Bl
end Go.Proofs.Ytalfpbalekbinaa
