import Derived.Test.YtalfpbalekbinaaMg10
/-
  Blocks, pure: the finder's stack: which edges lie on it, and which blocks have been taken off.
-/
namespace Go.Proofs.Ytalfpbalekbinaa
namespace Bl
open Df Lo

section
variable {n : Nat} {es : List (Int × Int)} {s : St} {v : Nat}

/-- The vertex at whose coming an edge is laid on the stack. -/
def ev (es : List (Int × Int)) (s : St) (e : Nat) : Nat := if tree es s e = true then go_ es s e else fr es s e
theorem ev_tree {e : Nat} (h : tree es s e = true) : ev es s e = go_ es s e := by unfold ev; rw [if_pos h]
theorem ev_back {e : Nat} (h : tree es s e = false) : ev es s e = fr es s e := by unfold ev; rw [if_neg (by rw [h]; decide)]
theorem ev_lt (hv : Si.Val n es) (h : VF n es s) {e : Nat} (he : e < es.length) : ev es s e < n := by
  unfold ev
  split
  · exact (ends_lt hv h he).2
  · exact (ends_lt hv h he).1

/-- An edge stands below its block's head. -/
theorem HD.under (hv : Si.Val n es) (h : VF n es s) {k c : Nat} (hd : HD es s k c) : Anc es s (go_ es s c) (ev es s k) := by
  induction hd with
  | @self e he hh =>
    rw [ev_tree hh.1]
    exact anc_self h (ends_lt hv h he).2
  | @up k p e hk hn hp tp gp _ ih =>
    rw [ev_tree tp, gp] at ih
    cases tk : tree es s k with
    | true =>
      rw [ev_tree tk]
      exact anc_trans ih (child_anc hv h hk tk)
    | false =>
      rw [ev_back tk]
      exact ih
/-- What stands below a head has its own head there. -/
theorem HD.stays (hv : Si.Val n es) (h : VF n es s) {t k c : Nat} (ht : t < es.length) (hh : head es s t) (hd : HD es s k c) : Anc es s (go_ es s t) (ev es s k) → Anc es s (go_ es s t) (go_ es s c) := by
  induction hd with
  | @self e he hh' =>
    rw [ev_tree hh'.1]
    exact fun ha => ha
  | @up k p e hk hn hp tp gp _ ih =>
    intro ha
    refine ih ?_
    rw [ev_tree tp, gp]
    cases tk : tree es s k with
    | true =>
      rw [ev_tree tk] at ha
      by_cases e1 : go_ es s t = go_ es s k
      · have := tree_one h ht hk hh.1 tk e1
        subst this
        exact absurd hh hn
      · exact anc_parent hv h hk tk ha e1
    | false =>
      rw [ev_back tk] at ha
      exact ha

/-- A tree edge leads no lower than each back edge below it. -/
theorem low_le_ht {t b : Nat} (tt : tree es s t = true) (hb : b < es.length) (tb : tree es s b = false) (ha : Anc es s (go_ es s t) (fr es s b)) : low es s t ≤ ht es s b := by
  by_cases hl : ht es s b < hf es s t
  · exact (least_le (hf es s t) (hs es s t)).2 (ht es s b) (List.mem_map.2 ⟨b, (mem_rets_tree tt).2 ⟨hb, tb, hl, ha⟩, rfl⟩)
  · have := (least_le (hf es s t) (hs es s t)).1
    have e : low es s t = least (hf es s t) (hs es s t) := rfl
    omega
/-- .. and its height is one of these, or where it begins. -/
theorem low_cases {t : Nat} (tt : tree es s t = true) : low es s t = hf es s t ∨ ∃ b, b < es.length ∧ tree es s b = false ∧ Anc es s (go_ es s t) (fr es s b) ∧ low es s t = ht es s b := by
  rcases least_mem (hf es s t) (hs es s t) with h2 | h2
  · exact .inl h2
  · obtain ⟨b, hb, hb2⟩ := List.mem_map.1 h2
    obtain ⟨b1, b2, b3, b4⟩ := (mem_rets_tree tt).1 hb
    exact .inr ⟨b, b1, b2, b4, hb2.symm⟩

/-- Tree edges one behind the other, from a root down. -/
structure Path (es : List (Int × Int)) (s : St) (T : List Nat) : Prop where
  edge : ∀ i t : Nat, T[i]? = some t → t < es.length ∧ tree es s t = true ∧ hf es s t = (i : Int)
  next : ∀ i t t' : Nat, T[i]? = some t → T[i + 1]? = some t' → fr es s t' = go_ es s t

theorem Path.ht (hv : Si.Val n es) (h : VF n es s) {T : List Nat} (P : Path es s T) {i t : Nat} (hi : T[i]? = some t) : at_ s.hei (go_ es s t) = (i : Int) + 1 := by
  obtain ⟨h1, h2, h3⟩ := P.edge i t hi
  have := (tree_up hv h h1 h2).2
  unfold Lo.ht at this
  omega
theorem Path.inj {T : List Nat} (P : Path es s T) {i k t : Nat} (hi : T[i]? = some t) (hk : T[k]? = some t) : i = k := by
  have h1 := (P.edge i t hi).2.2
  have h2 := (P.edge k t hk).2.2
  omega
theorem Path.anc (hv : Si.Val n es) (h : VF n es s) {T : List Nat} (P : Path es s T) {i t : Nat} (hi : T[i]? = some t) : ∀ (d : Nat) (t' : Nat), T[i + d]? = some t' → Anc es s (go_ es s t) (go_ es s t')
  | 0, t', hk => by
    rw [Nat.add_zero, hi] at hk
    cases hk
    exact anc_self h (ends_lt hv h (P.edge i _ hi).1).2
  | d + 1, t', hk => by
    obtain ⟨t1, h1⟩ : ∃ t1, T[i + d]? = some t1 := ⟨_, List.getElem?_eq_getElem (by have := (List.getElem?_eq_some_iff.1 hk).1; omega)⟩
    have ih := Path.anc hv h P hi d t1 h1
    have hn := P.next (i + d) t1 t' h1 hk
    obtain ⟨k1, k2, _⟩ := P.edge _ _ hk
    have hc := child_anc hv h k1 k2
    rw [hn] at hc
    exact anc_trans ih hc
/-- The heads of the edges of a path are on it. -/
theorem Path.head (hv : Si.Val n es) (h : VF n es s) {T : List Nat} (P : Path es s T) : ∀ (i t : Nat), T[i]? = some t → hdf es s t ∈ T := by
  intro i
  induction i with
  | zero =>
    intro t ht
    obtain ⟨h1, h2, h3⟩ := P.edge 0 t ht
    have hh : Bl.head es s t := ⟨h2, by have := low_nonneg hv h h1; omega⟩
    rw [hdf_eq hv h (.self h1 hh)]
    exact List.mem_of_getElem? ht
  | succ i ih =>
    intro t ht
    obtain ⟨h1, h2, h3⟩ := P.edge _ t ht
    by_cases hh : Bl.head es s t
    · rw [hdf_eq hv h (.self h1 hh)]
      exact List.mem_of_getElem? ht
    · obtain ⟨t1, e1⟩ : ∃ t1, T[i]? = some t1 := ⟨_, List.getElem?_eq_getElem (by have := (List.getElem?_eq_some_iff.1 ht).1; omega)⟩
      obtain ⟨k1, k2, _⟩ := P.edge _ _ e1
      have := ih t1 e1
      rw [hdf_eq hv h (.up h1 hh k1 k2 (P.next i t1 t e1 ht).symm (hdf_of hv h k1))]
      exact this
theorem Path.front {T : List Nat} {t : Nat} (P : Path es s (T ++ [t])) : Path es s T := by
  have hg : ∀ i x, T[i]? = some x → (T ++ [t])[i]? = some x := fun i x hx => by
    rw [List.getElem?_append_left (List.getElem?_eq_some_iff.1 hx).1]
    exact hx
  exact ⟨fun i x hx => P.edge i x (hg i x hx), fun i x y hx hy => P.next i x y (hg i x hx) (hg _ y hy)⟩
theorem last_at {α : Type} (T : List α) (t : α) : (T ++ [t])[T.length]? = some t := by simp
theorem Path.more {T : List Nat} {t : Nat} (P : Path es s T) (h1 : t < es.length) (h2 : tree es s t = true) (h3 : hf es s t = (T.length : Int)) (h4 : ∀ t', T.getLast? = some t' → fr es s t = go_ es s t') : Path es s (T ++ [t]) := by
  have split : ∀ i x, (T ++ [t])[i]? = some x → T[i]? = some x ∨ (i = T.length ∧ x = t) := fun i x hx => by
    by_cases hi : i < T.length
    · rw [List.getElem?_append_left hi] at hx
      exact .inl hx
    · have hl := (List.getElem?_eq_some_iff.1 hx).1
      simp at hl
      obtain rfl : i = T.length := by omega
      rw [last_at] at hx
      cases hx
      exact .inr ⟨rfl, rfl⟩
  refine ⟨fun i x hx => ?_, fun i x y hx hy => ?_⟩
  · rcases split i x hx with hx | ⟨rfl, rfl⟩
    · exact P.edge i x hx
    · exact ⟨h1, h2, h3⟩
  · rcases split _ y hy with hy1 | ⟨e, rfl⟩
    · have hyl := (List.getElem?_eq_some_iff.1 hy1).1
      rcases split i x hx with hx1 | ⟨e2, _⟩
      · exact P.next i x y hx1 hy1
      · omega
    · rcases split i x hx with hx1 | ⟨e2, _⟩
      · refine h4 x ?_
        rw [List.getLast?_eq_getElem?, ← e]
        exact hx1
      · omega

/-- What the low of a tree edge on the way says, as far as has been seen. -/
def LowAt (es : List (Int × Int)) (s : St) (X : Nat → Prop) (T : List Nat) (i t : Nat) (l : Int) : Prop :=
  low es s t ≤ l ∧ l ≤ (i : Int) ∧ ∀ b, b < es.length → tree es s b = false → X b → Anc es s (go_ es s t) (fr es s b) → (∀ t', T[i + 1]? = some t' → ¬ Anc es s (go_ es s t') (fr es s b)) → l ≤ ht es s b

/-- The finder: edges X have been laid; the way's tree edges T; the stack S; their places Y; the blocks F. -/
structure Fi (es : List (Int × Int)) (s : St) (X : Nat → Prop) (T : List Nat) (S : List (Nat × Int)) (Y : List Nat) (F : List (List Nat)) : Prop where
  path : Path es s T
  laid : ∀ t ∈ T, X t
  mem : ∀ e, e ∈ S.map Prod.fst ↔ (e < es.length ∧ X e ∧ hdf es s e ∈ T)
  nod : (S.map Prod.fst).Nodup
  len : Y.length = T.length
  way : ∀ i a : Nat, Y[i]? = some a → ∃ t l, T[i]? = some t ∧ S[a]? = some (t, l) ∧ (∀ (p : Nat) (q : Nat × Int), S[p]? = some q → (a ≤ p ↔ Anc es s (go_ es s t) (ev es s q.1))) ∧ LowAt es s X T i t l
  pos : ∀ q ∈ S, 0 ≤ q.2
  one : ∀ B ∈ F, ∃ c, c < es.length ∧ head es s c ∧ X c ∧ c ∉ T ∧ B.Nodup ∧ ∀ e, e ∈ B ↔ (e < es.length ∧ hdf es s e = c)
  all : ∀ c, c < es.length → head es s c → X c → c ∉ T → ∃ B ∈ F, c ∈ B
  apart : F.Pairwise fun B B' => ∀ e ∈ B, e ∉ B'

theorem Fi.start (es : List (Int × Int)) (s : St) {X : Nat → Prop} (hX : ∀ e, e < es.length → ¬ X e) : Fi es s X [] [] [] [] :=
  ⟨⟨fun i t h => by simp at h, fun i t t' h => by simp at h⟩, fun t h => by simp at h, fun e => ⟨fun h => by simp at h, fun h => absurd h.2.1 (hX e h.1)⟩, by simp, rfl, fun i a h => by simp at h, fun q h => by simp at h, fun B h => by simp at h, fun c hc _ hx => absurd hx (hX c hc), List.Pairwise.nil⟩

theorem Fi.congr {X X' : Nat → Prop} {T : List Nat} {S : List (Nat × Int)} {Y : List Nat} {F : List (List Nat)} (f : Fi es s X T S Y F) (hX : ∀ e, e < es.length → (X e ↔ X' e)) : Fi es s X' T S Y F where
  path := f.path
  laid := fun t ht => by
    obtain ⟨i, hi⟩ := List.getElem?_of_mem ht
    exact (hX t (f.path.edge i t hi).1).1 (f.laid t ht)
  mem := fun e => (f.mem e).trans ⟨fun h => ⟨h.1, (hX e h.1).1 h.2.1, h.2.2⟩, fun h => ⟨h.1, (hX e h.1).2 h.2.1, h.2.2⟩⟩
  nod := f.nod
  len := f.len
  way := fun i a h => by
    obtain ⟨t, l, h1, h2, h3, h4, h5, h6⟩ := f.way i a h
    exact ⟨t, l, h1, h2, h3, h4, h5, fun b hb tb xb => h6 b hb tb ((hX b hb).2 xb)⟩
  pos := f.pos
  one := fun B hB => by
    obtain ⟨c, h1, h2, h3, h4⟩ := f.one B hB
    exact ⟨c, h1, h2, (hX c h1).1 h3, h4⟩
  all := fun c h1 h2 h3 => f.all c h1 h2 ((hX c h1).2 h3)
  apart := f.apart

theorem mem_map_fst {S : List (Nat × Int)} {p : Nat} {q : Nat × Int} (h : S[p]? = some q) : q.1 ∈ S.map Prod.fst := List.mem_map.2 ⟨q, List.mem_of_getElem? h, rfl⟩
theorem split_last {α : Type} {T : List α} {t x : α} {i : Nat} (h : (T ++ [t])[i]? = some x) : (i < T.length ∧ T[i]? = some x) ∨ (i = T.length ∧ x = t) := by
  by_cases hi : i < T.length
  · rw [List.getElem?_append_left hi] at h
    exact .inl ⟨hi, h⟩
  · have hl := (List.getElem?_eq_some_iff.1 h).1
    simp at hl
    obtain rfl : i = T.length := by omega
    rw [last_at] at h
    cases h
    exact .inr ⟨rfl, rfl⟩

/-- A tree edge is laid. -/
theorem Fi.push (hv : Si.Val n es) (h : VF n es s) {X : Nat → Prop} {T : List Nat} {S : List (Nat × Int)} {Y : List Nat} {F : List (List Nat)} (f : Fi es s X T S Y F) {t : Nat} (h1 : t < es.length) (h2 : tree es s t = true) (h3 : hf es s t = (T.length : Int)) (h4 : ∀ t', T.getLast? = some t' → fr es s t = go_ es s t')
    (hX : ∀ e, e < es.length → Anc es s (go_ es s t) (ev es s e) → ¬ X e) : Fi es s (fun e => X e ∨ e = t) (T ++ [t]) (S ++ [(t, hf es s t)]) (Y ++ [S.length]) F := by
  have hP := f.path.more h1 h2 h3 h4
  have hself := anc_self h (ends_lt hv h h1).2
  have hXt : ¬ X t := hX t h1 (by rw [ev_tree h2]; exact hself)
  have hold : ∀ e, e < es.length → X e → hdf es s e ≠ t := fun e he hx e1 => hX e he (by
    have := (hdf_of hv h he).under hv h
    rw [e1] at this
    exact this) hx
  have hanc : ∀ i x, T[i]? = some x → Anc es s (go_ es s x) (go_ es s t) := fun i x hx => by
    have hi := (List.getElem?_eq_some_iff.1 hx).1
    refine hP.anc hv h (i := i) (by rw [List.getElem?_append_left hi]; exact hx) (T.length - i) t ?_
    rw [show i + (T.length - i) = T.length by omega]
    exact last_at T t
  refine ⟨hP, fun x hx => ?_, fun e => ?_, ?_, by simp [f.len], fun i a ha => ?_, fun q hq => ?_, fun B hB => ?_, fun c c1 c2 c3 c4 => ?_, f.apart⟩
  · rcases List.mem_append.1 hx with hx | hx
    · exact .inl (f.laid x hx)
    · exact .inr (List.mem_singleton.1 hx)
  · rw [List.map_append, List.mem_append, f.mem e]
    constructor
    · rintro (⟨a, b, c⟩ | hx)
      · exact ⟨a, .inl b, List.mem_append_left _ c⟩
      · have : e = t := by simpa using hx
        subst this
        exact ⟨h1, .inr rfl, hP.head hv h _ _ (last_at T e)⟩
    · rintro ⟨a, b | rfl, c⟩
      · rcases List.mem_append.1 c with c | c
        · exact .inl ⟨a, b, c⟩
        · exact absurd (List.mem_singleton.1 c) (hold e a b)
      · exact .inr (by simp)
  · rw [List.map_append, List.nodup_append]
    refine ⟨f.nod, by simp, fun a ha b hb e1 => ?_⟩
    have : b = t := by simpa using hb
    subst this
    subst e1
    exact hXt ((f.mem a).1 ha).2.1
  · rcases split_last ha with ⟨hi, ha⟩ | ⟨rfl, rfl⟩
    · obtain ⟨x, l, k1, k2, k3, k4, k5, k6⟩ := f.way i a ha
      have hal := (List.getElem?_eq_some_iff.1 k2).1
      refine ⟨x, l, by rw [List.getElem?_append_left (by have := f.len; omega)]; exact k1, by rw [List.getElem?_append_left hal]; exact k2, fun p q hq => ?_, k4, k5, fun b hb tb xb ab nb => ?_⟩
      · rcases split_last hq with ⟨_, hq⟩ | ⟨rfl, rfl⟩
        · exact k3 p q hq
        · refine ⟨fun _ => ?_, fun _ => by omega⟩
          show Anc es s (go_ es s x) (ev es s t)
          rw [ev_tree h2]
          exact hanc i x k1
      · rcases xb with xb | rfl
        · refine k6 b hb tb xb ab (fun t' ht' => nb t' ?_)
          rw [List.getElem?_append_left (List.getElem?_eq_some_iff.1 ht').1]
          exact ht'
        · rw [h2] at tb
          cases tb
    · rw [f.len]
      refine ⟨t, hf es s t, last_at T t, last_at S _, fun p q hq => ?_, by have := low_le es s t; omega, by omega, fun b hb tb xb ab _ => ?_⟩
      · rcases split_last hq with ⟨hp, hq⟩ | ⟨rfl, rfl⟩
        · obtain ⟨m1, m2, _⟩ := (f.mem q.1).1 (mem_map_fst hq)
          exact ⟨fun hle => by omega, fun ha' => absurd m2 (hX _ m1 ha')⟩
        · refine ⟨fun _ => ?_, fun _ => Nat.le_refl _⟩
          show Anc es s (go_ es s t) (ev es s t)
          rw [ev_tree h2]
          exact hself
      · rcases xb with xb | rfl
        · exact absurd xb (hX b hb (by rw [ev_back tb]; exact ab))
        · rw [h2] at tb
          cases tb
  · rcases List.mem_append.1 hq with hq | hq
    · exact f.pos q hq
    · rw [List.mem_singleton.1 hq]
      show 0 ≤ hf es s t
      omega
  · obtain ⟨c, c1, c2, c3, c4, c5⟩ := f.one B hB
    refine ⟨c, c1, c2, .inl c3, fun hc => ?_, c5⟩
    rcases List.mem_append.1 hc with hc | hc
    · exact c4 hc
    · rw [List.mem_singleton.1 hc] at c3
      exact hXt c3
  · rcases c3 with c3 | rfl
    · exact f.all c c1 c2 c3 (fun hc => c4 (List.mem_append_left _ hc))
    · exact absurd (List.mem_append_right _ (List.mem_singleton.2 rfl)) c4
end
end Bl
end Go.Proofs.Ytalfpbalekbinaa
