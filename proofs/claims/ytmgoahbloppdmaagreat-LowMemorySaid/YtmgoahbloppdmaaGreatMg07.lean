import Derived.Test.YtmgoahbloppdmaaGreatMg06
import Derived.Test.YtmgoahbloppdmaaGreatMg01
import Derived.Test.YtmgoahbloppdmaaGreatMg04
/-
  How far up the edges of a depth-first forest lead, pure: what the document says.
-/
namespace Go.Proofs.YtmgoahbloppdmaaGreat
namespace Lo
open Df

/-- The half-edge by which an edge is walked; where it begins, where it leads. -/
def oh (s : St) (e : Nat) : Nat := (at_ s.ori e).toNat
def fr (es : List (Int × Int)) (s : St) (e : Nat) : Nat := Cs.fr es (oh s e)
def go_ (es : List (Int × Int)) (s : St) (e : Nat) : Nat := Cs.to es (oh s e)
/-- Is it a tree edge? -/
def tree (es : List (Int × Int)) (s : St) (e : Nat) : Bool := decide (at_ s.par (go_ es s e) = at_ s.ori e)
/-- The height to which an edge leads, and that at which it begins. -/
def ht (es : List (Int × Int)) (s : St) (e : Nat) : Int := at_ s.hei (go_ es s e)
def hf (es : List (Int × Int)) (s : St) (e : Nat) : Int := at_ s.hei (fr es s e)

open Classical in
/-- Is b a return edge of the tree edge e? -/
noncomputable def isRet (es : List (Int × Int)) (s : St) (e b : Nat) : Bool := !tree es s b && (decide (ht es s b < hf es s e) && decide (Anc es s (go_ es s e) (fr es s b)))
noncomputable def rets (es : List (Int × Int)) (s : St) (e : Nat) : List Nat := if tree es s e = true then (List.range es.length).filter (isRet es s e) else [e]

/-- The least of h and the numbers of a list. -/
def least (h : Int) : List Int → Int
  | [] => h
  | x :: l => least (min h x) l
theorem least_snoc (h : Int) : ∀ (l : List Int) (x : Int), least h (l ++ [x]) = min (least h l) x
  | [], _ => rfl
  | y :: l, x => least_snoc (min h y) l x
theorem least_le (h : Int) : ∀ (l : List Int), least h l ≤ h ∧ ∀ x ∈ l, least h l ≤ x
  | [] => ⟨Int.le_refl _, fun x hx => by simp at hx⟩
  | y :: l => by
    obtain ⟨h1, h2⟩ := least_le (min h y) l
    refine ⟨?_, fun x hx => ?_⟩
    · show least (min h y) l ≤ h
      omega
    · rcases List.mem_cons.1 hx with rfl | hx
      · show least (min h x) l ≤ x
        omega
      · exact h2 x hx
theorem least_mem (h : Int) : ∀ (l : List Int), least h l = h ∨ least h l ∈ l
  | [] => .inl rfl
  | y :: l => by
    show least (min h y) l = h ∨ least (min h y) l ∈ y :: l
    rcases least_mem (min h y) l with h1 | h1
    · rw [h1]
      by_cases hy : h ≤ y
      · exact .inl (by omega)
      · exact .inr (by rw [show min h y = y by omega]; exact List.mem_cons_self)
    · exact .inr (List.mem_cons_of_mem _ h1)

/-- The heights to which the return edges lead. -/
noncomputable def hs (es : List (Int × Int)) (s : St) (e : Nat) : List Int := (rets es s e).map (ht es s)
noncomputable def low (es : List (Int × Int)) (s : St) (e : Nat) : Int := least (hf es s e) (hs es s e)
/-- The least that is greater than Low; h(v), if nothing returns. -/
noncomputable def low2 (es : List (Int × Int)) (s : St) (e : Nat) : Int := least (hf es s e) ((hs es s e).filter fun x => decide (low es s e < x))
noncomputable def nest (es : List (Int × Int)) (s : St) (e : Nat) : Int := if low es s e < low2 es s e ∧ low2 es s e < hf es s e then 2 * low es s e + 1 else 2 * low es s e

section
variable {n : Nat} {es : List (Int × Int)} {s : St} {e : Nat}

/-- An edge's half-edge. -/
theorem oh_of (h : VF n es s) (he : e < es.length) : at_ s.ori e = (oh s e : Int) ∧ (oh s e = 2 * e ∨ oh s e = 2 * e + 1) ∧ oh s e < 2 * es.length ∧ oh s e / 2 = e := by
  obtain ⟨x, h1, h2, _⟩ := h.edge e he
  have : oh s e = x := by unfold oh; rw [h2]; simp
  rw [this]
  exact ⟨h2, h1, by omega, by omega⟩
theorem ends_lt (hv : Si.Val n es) (h : VF n es s) (he : e < es.length) : fr es s e < n ∧ go_ es s e < n := Cs.half_lt hv (oh_of h he).2.2.1

/-- A tree edge leads to where it hangs; a back edge to a vertex above. -/
theorem tree_iff (h : VF n es s) (he : e < es.length) : tree es s e = true ↔ at_ s.par (go_ es s e) = (oh s e : Int) := by
  unfold tree
  rw [decide_eq_true_iff, (oh_of h he).1]
theorem back_anc (h : VF n es s) (he : e < es.length) (hb : tree es s e = false) : Anc es s (go_ es s e) (fr es s e) := by
  obtain ⟨x, h1, h2, h3⟩ := h.edge e he
  have hx : oh s e = x := by unfold oh; rw [h2]; simp
  rcases h3 with h3 | h3
  · have := (tree_iff h he).2 (by unfold go_; rw [hx]; exact h3)
    rw [hb] at this
    cases this
  · unfold go_ fr
    rw [hx]
    exact h3
end
end Lo
end Go.Proofs.YtmgoahbloppdmaaGreat

/-
  How far up edges lead, pure: Low, Low2 and Nest (P8.2, P8.3).
-/
namespace Go.Proofs.YtmgoahbloppdmaaGreat
namespace Lo
open Df
section
variable {n : Nat} {es : List (Int × Int)} {s : St} {e b : Nat}

theorem ends_ne (hv : Si.Val n es) (h : VF n es s) (he : e < es.length) : go_ es s e ≠ fr es s e := by
  obtain ⟨_, _, hl, _⟩ := oh_of h he
  have hlt := hl
  unfold go_ fr
  obtain ⟨p, hp⟩ : ∃ p, es[oh s e / 2]? = some p := ⟨_, List.getElem?_eq_getElem (by omega)⟩
  have ho := hv.each _ p hp
  unfold Si.ok at ho
  have e2 : oh s e = 2 * (oh s e / 2) ∨ oh s e = 2 * (oh s e / 2) + 1 := by omega
  obtain ⟨e3, e4⟩ := Cs.fr_even hp
  obtain ⟨e5, e6⟩ := Cs.fr_odd hp
  rcases e2 with e2 | e2
  · rw [e2, e3, e4]; omega
  · rw [e2, e5, e6]; omega

/-- A back edge leads up. -/
theorem back_up (hv : Si.Val n es) (h : VF n es s) (he : e < es.length) (hb : tree es s e = false) : ht es s e < hf es s e :=
  anc_height hv h.once h.hang h.side (ends_lt hv h he).1 (ends_ne hv h he) (back_anc h he hb)

theorem mem_rets_tree (ht' : tree es s e = true) : b ∈ rets es s e ↔ b < es.length ∧ tree es s b = false ∧ ht es s b < hf es s e ∧ Anc es s (go_ es s e) (fr es s b) := by
  unfold rets
  rw [if_pos ht', List.mem_filter, List.mem_range]
  unfold isRet
  simp
theorem rets_back (hb : tree es s e = false) : rets es s e = [e] := by
  unfold rets
  rw [if_neg (by rw [hb]; decide)]

/-- All return edges lead above where the edge begins; they are edges. -/
theorem rets_lt (hv : Si.Val n es) (h : VF n es s) (he : e < es.length) (hb : b ∈ rets es s e) : b < es.length ∧ tree es s b = false ∧ ht es s b < hf es s e := by
  cases ht' : tree es s e with
  | true =>
    obtain ⟨h1, h2, h3, _⟩ := (mem_rets_tree ht').1 hb
    exact ⟨h1, h2, h3⟩
  | false =>
    rw [rets_back ht', List.mem_singleton] at hb
    subst hb
    exact ⟨he, ht', back_up hv h he ht'⟩

theorem hs_lt (hv : Si.Val n es) (h : VF n es s) (he : e < es.length) : ∀ x ∈ hs es s e, x < hf es s e := fun x hx => by
  obtain ⟨b, hb, rfl⟩ := List.mem_map.1 hx
  exact (rets_lt hv h he hb).2.2

/-- Low is at most Low2, that at most h(v). -/
theorem low_le (es : List (Int × Int)) (s : St) (e : Nat) : low es s e ≤ low2 es s e ∧ low2 es s e ≤ hf es s e := by
  have h1 := least_le (hf es s e) (hs es s e)
  have h2 := least_le (hf es s e) ((hs es s e).filter fun x => decide (low es s e < x))
  refine ⟨?_, h2.1⟩
  rcases least_mem (hf es s e) ((hs es s e).filter fun x => decide (low es s e < x)) with h3 | h3
  · unfold low2; rw [h3]; exact h1.1
  · have h4 := (List.mem_filter.1 h3).1
    exact h1.2 _ h4

/-- They are one just if there is no return edge. -/
theorem low_eq_iff (hv : Si.Val n es) (h : VF n es s) (he : e < es.length) : low es s e = low2 es s e ↔ rets es s e = [] := by
  constructor
  · intro hl
    refine Classical.byContradiction fun hne => ?_
    obtain ⟨b, hb⟩ := List.exists_mem_of_ne_nil _ hne
    have h1 := (least_le (hf es s e) (hs es s e)).2 _ (List.mem_map.2 ⟨b, hb, rfl⟩)
    have h2 := hs_lt hv h he _ (List.mem_map.2 ⟨b, hb, rfl⟩)
    have h3 : low es s e < hf es s e := by unfold low; omega
    rcases least_mem (hf es s e) ((hs es s e).filter fun x => decide (low es s e < x)) with h4 | h4
    · have h5 : low2 es s e = hf es s e := h4
      omega
    · have h5 := (List.mem_filter.1 h4).2
      have h6 : low es s e < low2 es s e := by unfold low2; simpa using h5
      omega
  · intro hr
    unfold low low2 hs
    rw [hr]
    rfl

theorem low_lt_iff (hv : Si.Val n es) (h : VF n es s) (he : e < es.length) : low es s e < hf es s e ↔ rets es s e ≠ [] := by
  constructor
  · intro hl hr
    unfold low hs at hl
    rw [hr] at hl
    simp [least] at hl
  · intro hne
    obtain ⟨b, hb⟩ := List.exists_mem_of_ne_nil _ hne
    have h1 := (least_le (hf es s e) (hs es s e)).2 _ (List.mem_map.2 ⟨b, hb, rfl⟩)
    have h2 := hs_lt hv h he _ (List.mem_map.2 ⟨b, hb, rfl⟩)
    unfold low
    omega

/-- Low of a back edge. -/
theorem low_back (hv : Si.Val n es) (h : VF n es s) (he : e < es.length) (hb : tree es s e = false) : low es s e = ht es s e := by
  have := back_up hv h he hb
  unfold low hs
  rw [rets_back hb]
  show min (hf es s e) (ht es s e) = _
  omega

theorem low_nonneg (hv : Si.Val n es) (h : VF n es s) (he : e < es.length) : 0 ≤ low es s e := by
  have hr := rooted_of hv h.once h.hang h.side
  unfold low
  rcases least_mem (hf es s e) (hs es s e) with h1 | h1
  · rw [h1]; exact (hr _ (ends_lt hv h he).1).1
  · obtain ⟨b, hb, hb2⟩ := List.mem_map.1 h1
    rw [← hb2]
    exact (hr _ (ends_lt hv h (rets_lt hv h he hb).1).2).1

/-- Who hangs at the end of a tree edge. -/
theorem tree_up (hv : Si.Val n es) (h : VF n es s) (he : e < es.length) (ht' : tree es s e = true) : Df.up es s (go_ es s e) = (fr es s e : Int) ∧ ht es s e = hf es s e + 1 := by
  have h1 := (tree_iff h he).1 ht'
  obtain ⟨_, _, hl, _⟩ := oh_of h he
  have hup : Df.up es s (go_ es s e) = (fr es s e : Int) := by
    unfold Df.up
    rw [Int.toNat_natCast, h1, Cs.frI_in hl]
    rfl
  refine ⟨hup, ?_⟩
  obtain ⟨⟨W, B⟩, hs'⟩ := h.side
  obtain ⟨Y, hw, hly, _⟩ := way_of (es := es) h.once hs' (ends_lt hv h he).2
  have hn := hv.hi
  have e1 := height_way hv h.hang Y _ (ends_lt hv h he).2 hw (by omega)
  cases Y with
  | nil =>
    have := hw.2.1
    rw [hup] at this
    simp at this
  | cons y Y =>
    have h2 := hw.2.1
    rw [hup] at h2
    have h3 : y = (fr es s e : Int) := by simpa using h2.symm
    have hw2 := hw.2.2
    rw [h3] at hw2
    have e2 := height_way hv h.hang Y _ (ends_lt hv h he).1 hw2 (by simp at hly; omega)
    show at_ s.hei (go_ es s e) = at_ s.hei (fr es s e) + 1
    rw [e1, e2]
    simp

theorem anc_trans {es : List (Int × Int)} {s : St} {a b c : Int} (h1 : Anc es s a b) (h2 : Anc es s b c) : Anc es s a c := by
  obtain ⟨W, hw, hb⟩ := h2
  refine ⟨W, hw, ?_⟩
  obtain ⟨X, Y, hXY⟩ := List.append_of_mem hb
  have hw2 := hw
  rw [hXY] at hw2
  have hmem := (Anc.iff hw2.tail).1 h1
  rw [hXY]
  exact List.mem_append_right _ hmem

/-- Whoever is above the end of the next edge, and not there itself, is above where it begins. -/
theorem anc_child {es : List (Int × Int)} {s : St} {w x v : Int} {W : List Int} (hw : IsWay es s (v :: W)) (hx : x ∈ v :: W) (hup : Df.up es s x = w) (hw0 : 0 ≤ w) : Anc es s w v := by
  obtain ⟨X, Y, hXY⟩ := List.append_of_mem hx
  have hw2 := hw
  rw [hXY] at hw2
  have ht := hw2.tail
  have h1 := ht.2.1
  rw [hup] at h1
  refine ⟨W, hw, ?_⟩
  rw [hXY]
  cases Y with
  | nil => simp at h1; omega
  | cons y Y =>
    have : w = y := by simpa using h1
    rw [this]
    simp
end
end Lo
end Go.Proofs.YtmgoahbloppdmaaGreat

/-
  Where an edge is put among those that leave a vertex, pure (the document's order of Out).
-/
namespace Go.Proofs.YtmgoahbloppdmaaGreat
namespace Lo

/-- What a list begins with that is not so, and the rest. -/
def fst (p : Int → Bool) : List Int → List Int
  | [] => []
  | x :: L => if p x = true then [] else x :: fst p L
def snd (p : Int → Bool) : List Int → List Int
  | [] => []
  | x :: L => if p x = true then x :: L else snd p L
theorem fst_snd (p : Int → Bool) : ∀ L, fst p L ++ snd p L = L
  | [] => rfl
  | x :: L => by
    unfold fst snd
    by_cases h : p x = true
    · rw [if_pos h, if_pos h]; rfl
    · rw [if_neg h, if_neg h, List.cons_append, fst_snd p L]
theorem fst_no (p : Int → Bool) : ∀ L, ∀ x ∈ fst p L, p x = false
  | [], x, hx => by simp [fst] at hx
  | y :: L, x, hx => by
    unfold fst at hx
    by_cases h : p y = true
    · rw [if_pos h] at hx; simp at hx
    · rw [if_neg h] at hx
      rcases List.mem_cons.1 hx with rfl | hx
      · simpa using h
      · exact fst_no p L x hx
theorem snd_yes (p : Int → Bool) : ∀ L x D, snd p L = x :: D → p x = true
  | [], x, D, h => by simp [snd] at h
  | y :: L, x, D, h => by
    unfold snd at h
    by_cases hy : p y = true
    · rw [if_pos hy] at h
      injection h with h1 _
      rw [← h1]
      exact hy
    · rw [if_neg hy] at h
      exact snd_yes p L x D h

/-- h is put ahead of the first that is so. -/
def put (p : Int → Bool) (h : Int) (L : List Int) : List Int := fst p L ++ h :: snd p L

/-- What has been gathered when i of L have been gone through: h is in it, or not yet. -/
def Got (p : Int → Bool) (h : Int) (L : List Int) (i : Nat) (l : List Int) (d : Bool) : Prop :=
  (d = false ∧ i ≤ (fst p L).length ∧ l = L.take i) ∨ (d = true ∧ (fst p L).length < i ∧ l = fst p L ++ h :: (snd p L).take (i - (fst p L).length))

section
variable {p : Int → Bool} {h x : Int} {L l : List Int} {i : Nat} {d : Bool}
theorem Got.start : Got p h L 0 [] false := .inl ⟨rfl, Nat.zero_le _, rfl⟩

theorem at_fst (hx : L[i]? = some x) (hi : i < (fst p L).length) : p x = false := by
  have h1 := fst_snd p L
  rw [← h1, List.getElem?_append_left hi] at hx
  exact fst_no p L x (List.mem_of_getElem? hx)
theorem at_snd (hx : L[i]? = some x) (hi : i = (fst p L).length) : p x = true := by
  have h1 := fst_snd p L
  rw [← h1, List.getElem?_append_right (by omega), hi, Nat.sub_self] at hx
  cases hs : snd p L with
  | nil => rw [hs] at hx; simp at hx
  | cons y D =>
    rw [hs] at hx
    have : y = x := by simpa using hx
    rw [← this]
    exact snd_yes p L y D hs

/-- The first that is so: h, then it. -/
theorem Got.ahead (g : Got p h L i l false) (hx : L[i]? = some x) (hp : p x = true) : Got p h L (i + 1) (l ++ [h] ++ [x]) true := by
  rcases g with ⟨_, g1, g2⟩ | ⟨g0, _⟩
  · have hi : i = (fst p L).length := by
      rcases Nat.lt_or_ge i (fst p L).length with h1 | h1
      · rw [at_fst hx h1] at hp; cases hp
      · omega
    refine .inr ⟨rfl, by omega, ?_⟩
    have h1 := fst_snd p L
    have hl : l = fst p L := by
      rw [g2, hi]
      have h5 : (fst p L ++ snd p L).take (fst p L).length = fst p L := List.take_left' rfl
      rw [h1] at h5
      exact h5
    have hx2 : (snd p L)[0]? = some x := by
      rw [← h1, List.getElem?_append_right (by omega), hi, Nat.sub_self] at hx
      exact hx
    have e1 : i + 1 - (fst p L).length = 0 + 1 := by omega
    rw [hl, e1, List.take_add_one, hx2]
    simp
  · cases g0
theorem Got.pass (g : Got p h L i l false) (hx : L[i]? = some x) (hp : p x = false) : Got p h L (i + 1) (l ++ [x]) false := by
  rcases g with ⟨_, g1, g2⟩ | ⟨g0, _⟩
  · have hi : i < (fst p L).length := by
      rcases Nat.lt_or_ge i (fst p L).length with h1 | h1
      · exact h1
      · have h3 : i = (fst p L).length := by omega
        rw [at_snd (p := p) hx h3] at hp
        cases hp
    refine .inl ⟨rfl, by omega, ?_⟩
    rw [g2, List.take_add_one, hx]
    rfl
  · cases g0
theorem Got.more (g : Got p h L i l true) (hx : L[i]? = some x) : Got p h L (i + 1) (l ++ [x]) true := by
  rcases g with ⟨g0, _⟩ | ⟨_, g1, g2⟩
  · cases g0
  · refine .inr ⟨rfl, by omega, ?_⟩
    have h1 := fst_snd p L
    have hx2 : (snd p L)[i - (fst p L).length]? = some x := by
      rw [← h1, List.getElem?_append_right (by omega)] at hx
      exact hx
    rw [g2, show i + 1 - (fst p L).length = i - (fst p L).length + 1 by omega, List.take_add_one, hx2]
    simp
theorem Got.end_no (g : Got p h L L.length l false) : l ++ [h] = put p h L := by
  rcases g with ⟨_, g1, g2⟩ | ⟨g0, _⟩
  · have h1 := fst_snd p L
    have h2 : (fst p L).length + (snd p L).length = L.length := by rw [← List.length_append, h1]
    have h3 : snd p L = [] := List.length_eq_zero_iff.1 (by omega)
    have h4 : fst p L = L := by
      have := h1
      rw [h3, List.append_nil] at this
      exact this
    unfold put
    rw [h3, h4, g2, List.take_length]
  · cases g0
theorem Got.end_yes (g : Got p h L L.length l true) : l = put p h L := by
  rcases g with ⟨g0, _⟩ | ⟨_, g1, g2⟩
  · cases g0
  · have h1 := fst_snd p L
    have h2 : (fst p L).length + (snd p L).length = L.length := by rw [← List.length_append, h1]
    unfold put
    rw [g2, List.take_of_length_le (by omega)]
end

/-- The lists of Out when k edges have been put. -/
noncomputable def outTo (n : Nat) (es : List (Int × Int)) (s : Df.St) : Nat → List (List Int)
  | 0 => List.replicate n []
  | k + 1 => (outTo n es s k).set (fr es s k) (put (fun x => decide (nest es s k < nest es s (x.toNat / 2))) (Df.at_ s.ori k) ((outTo n es s k).getD (fr es s k) []))
theorem outTo_len (n : Nat) (es : List (Int × Int)) (s : Df.St) : ∀ k, (outTo n es s k).length = n
  | 0 => by simp [outTo]
  | k + 1 => by unfold outTo; rw [List.length_set]; exact outTo_len n es s k

theorem put_mem {p : Int → Bool} {h : Int} {L : List Int} {x : Int} : x ∈ put p h L ↔ x = h ∨ x ∈ L := by
  have h1 := fst_snd p L
  unfold put
  rw [List.mem_append, List.mem_cons]
  constructor
  · rintro (h2 | h2 | h2)
    · exact .inr (by rw [← h1]; exact List.mem_append_left _ h2)
    · exact .inl h2
    · exact .inr (by rw [← h1]; exact List.mem_append_right _ h2)
  · rintro (h2 | h2)
    · exact .inr (.inl h2)
    · rw [← h1] at h2
      rcases List.mem_append.1 h2 with h3 | h3
      · exact .inl h3
      · exact .inr (.inr h3)
theorem put_len {p : Int → Bool} {h : Int} {L : List Int} : (put p h L).length = L.length + 1 := by
  have h1 := fst_snd p L
  have h2 : (fst p L).length + (snd p L).length = L.length := by rw [← List.length_append, h1]
  unfold put
  rw [List.length_append, List.length_cons]
  omega

/-- What stands in Out are half-edges of edges below k. -/
theorem outTo_half {n : Nat} {es : List (Int × Int)} {s : Df.St} (hv : Si.Val n es) (hVF : Df.VF n es s) : ∀ k, k ≤ es.length → ∀ L ∈ outTo n es s k, (∀ x ∈ L, ∃ b : Nat, b < k ∧ x = Df.at_ s.ori b) ∧ L.length ≤ k
  | 0, _, L, hL => by
    unfold outTo at hL
    rw [List.mem_replicate] at hL
    rw [hL.2]
    exact ⟨fun x hx => by simp at hx, by simp⟩
  | k + 1, hk, L, hL => by
    have ih := outTo_half hv hVF k (by omega)
    unfold outTo at hL
    rcases List.mem_or_eq_of_mem_set hL with h1 | h1
    · obtain ⟨h2, h3⟩ := ih L h1
      exact ⟨fun x hx => by obtain ⟨b, hb, e⟩ := h2 x hx; exact ⟨b, by omega, e⟩, by omega⟩
    · have hlt : fr es s k < (outTo n es s k).length := by rw [outTo_len]; exact (ends_lt hv hVF (by omega)).1
      have hmem : (outTo n es s k).getD (fr es s k) [] ∈ outTo n es s k := by
        rw [List.getD_eq_getElem?_getD, List.getElem?_eq_getElem hlt]
        exact List.getElem_mem hlt
      obtain ⟨h2, h3⟩ := ih _ hmem
      rw [h1]
      refine ⟨fun x hx => ?_, by rw [put_len]; omega⟩
      rcases put_mem.1 hx with e | hx
      · exact ⟨k, by omega, e⟩
      · obtain ⟨b, hb, e⟩ := h2 x hx
        exact ⟨b, by omega, e⟩
end Lo
end Go.Proofs.YtmgoahbloppdmaaGreat

/-
  Lists of ints of one's own.
-/
namespace Go.Proofs.YtmgoahbloppdmaaGreat
open Go.RowKit

/-- v is a list of the ints l, in memory of its own, laid since block B. -/
def OwnZ (w : World) (B : Nat) (v : Value) (l : List Int) : Prop := w.ownsRow B 3 1 v l.length (l.map (Value.int .i64))

section
variable {w w' : World} {B : Nat} {v : Value} {l : List Int}
theorem OwnZ.nil (w : World) (B : Nat) : OwnZ w B (.slice none 0 0) [] := World.ownsRow_nil _ _ _ _
theorem OwnZ.form (h : OwnZ w B v l) : ∃ ao cap, v = .slice ao l.length cap ∧ IntsAt w ao l ∧ (∀ x, ao = some x → B ≤ x.block ∧ x.block < w.heap.size) := by
  rcases h.2 with ⟨rfl, h0⟩ | ⟨g, cap, cur, rfl, hB, hh, _⟩
  · refine ⟨none, 0, by rw [h0], fun j x hj => ?_, fun x hx => by cases hx⟩
    have := (List.getElem?_eq_some_iff.1 hj).1
    omega
  · refine ⟨_, _, rfl, fun j x hj => ?_, fun x hx => by cases hx; exact ⟨hB, lt_of_block hh⟩⟩
    refine ⟨g, 0, rfl, ?_⟩
    have := World.ownsRow.cells h (g := g) rfl j (.int .i64 x) (by rw [List.getElem?_map, hj]; rfl)
    have e : ((⟨g, 0, none⟩ : Addr).add j) = ⟨g, 0 + j, none⟩ := by
      by_cases h0 : j = 0 <;> simp [Addr.add, h0]
    rw [e] at this
    exact this
theorem OwnZ.same (h : OwnZ w B v l) (hb : ∀ g, v.ownBlock = some g → g < w.heap.size → w'.heap[g]? = w.heap[g]?) : OwnZ w' B v l := by
  refine ⟨h.1, ?_⟩
  rcases h.2 with h | ⟨g, cap, cur, e1, hgB, hh, hr⟩
  · exact .inl h
  · exact .inr ⟨g, cap, cur, e1, hgB, (hb g (by rw [e1]; rfl) (lt_of_block hh)).trans hh, hr⟩
theorem OwnZ.later (h : OwnZ w B v l) (hb : Below w.heap.size w w') : OwnZ w' B v l := h.same fun g _ hl => hb.block g hl
theorem OwnZ.lower {B' : Nat} (h : OwnZ w B v l) (hB : B' ≤ B) : OwnZ w B' v l := by
  refine ⟨h.1, ?_⟩
  rcases h.2 with h | ⟨g, cap, cur, e1, hgB, hr⟩
  · exact .inl h
  · exact .inr ⟨g, cap, cur, e1, Nat.le_trans hB hgB, hr⟩
theorem IntsBlk.own {g n : Nat} (h : IntsBlk w g l) (hB : B ≤ g) (hl : l.length = n) (hm : n ≤ 8388608) : OwnZ w B (.slice (some ⟨g, 0, none⟩) n n) l := by
  subst hl
  refine ⟨by simp, .inr ⟨g, _, _, rfl, hB, h, Nat.le_refl _, by unfold maxLen; omega, by simp, ?_⟩⟩
  rw [List.take_of_length_le (by simp)]
end

end Go.Proofs.YtmgoahbloppdmaaGreat
