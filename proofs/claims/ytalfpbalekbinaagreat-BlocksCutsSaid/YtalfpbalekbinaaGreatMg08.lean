import Derived.Test.YtalfpbalekbinaaGreatMg07
/-
  Blocks, pure: of edges that meet at a vertex just those are in one block whose other ends hang together without it.
-/
namespace Go.Proofs.YtalfpbalekbinaaGreat
namespace Bl
open Df Lo

section
variable {n : Nat} {es : List (Int × Int)} {s : St} {v : Nat}

theorem ConnV.refl (a : Nat) : ConnV es s v a a := fun _ _ => Iff.rfl
theorem ConnV.symm {a b : Nat} (h : ConnV es s v a b) : ConnV es s v b a := fun S hS => (h S hS).symm
theorem ConnV.trans {a b c : Nat} (h : ConnV es s v a b) (h' : ConnV es s v b c) : ConnV es s v a c := fun S hS => (h S hS).trans (h' S hS)

/-- A head stands no lower than the edge. -/
theorem HD.height (hv : Si.Val n es) (h : VF n es s) {k e : Nat} (hk : HD es s k e) : hf es s e ≤ hf es s k := by
  induction hk with
  | self => exact Int.le_refl _
  | @up k p e _ _ hp tp gp _ ih =>
    have h1 := (tree_up hv h hp tp).2
    have h2 : Lo.ht es s p = hf es s k := by unfold Lo.ht hf; rw [gp]
    omega

/-- Below a child of v all hangs together without v. -/
theorem below_conn (hv : Si.Val n es) (h : VF n es s) {c x : Nat} (hc : c < es.length) (tc : tree es s c = true) (hx : x < n) (ha : Anc es s (go_ es s c) x) : ConnV es s (fr es s c) x (go_ es s c) := fun _ hS =>
  up_connV h hS hx ha (fun y hy _ e => not_below hv h hc tc (by rw [← e]; exact hy))

/-- An edge at v whose other end stands below no head that begins at v hangs together, without v, with where v hangs. -/
theorem out_conn (hv : Si.Val n es) (h : VF n es s) {i p : Nat} (hi : i < es.length) (ha : endAt es s i v) (hb : ∀ c, c < es.length → head es s c → fr es s c = v → ¬ Anc es s (go_ es s c) (oth es s i v)) (hp : p < es.length) (tp : tree es s p = true) (gp : go_ es s p = v) : ConnV es s v (oth es s i v) (fr es s p) := by
  obtain ⟨hif, hig⟩ := ends_lt hv h hi
  by_cases e : fr es s i = v
  · have hnh : ¬ head es s i := fun hh => hb i hi hh e (by unfold oth; rw [if_pos e]; exact anc_self h hig)
    unfold oth
    rw [if_pos e]
    have := up_pair hv h hi hnh hp tp (gp.trans e.symm)
    rw [e] at this
    exact this
  · have hg : go_ es s i = v := ha.resolve_left e
    unfold oth
    rw [if_neg e]
    cases ti : tree es s i with
    | true =>
      rw [tree_one h hi hp ti tp (hg.trans gp.symm)]
      exact ConnV.refl _
    | false =>
      have hba := back_anc h hi ti
      obtain ⟨c, hc, tc, fc, hcx⟩ := child_of h hif hba (ends_ne hv h hi)
      have hnh : ¬ head es s c := fun hh => hb c hc hh (fc.trans hg) (by unfold oth; rw [if_neg e]; exact hcx)
      have h1 := below_conn hv h hc tc hif hcx
      have h2 := up_pair hv h hc hnh hp tp (gp.trans (fc.trans hg).symm)
      rw [fc.trans hg] at h1 h2
      exact h1.trans h2

/-- Edges at v: one head just if the other ends hang together without v. -/
theorem at_iff (hv : Si.Val n es) (h : VF n es s) {i k e e' : Nat} (hi : i < es.length) (hk : k < es.length) (a1 : endAt es s i v) (a2 : endAt es s k v) (h1 : HD es s i e) (h2 : HD es s k e') : e = e' ↔ ConnV es s v (oth es s i v) (oth es s k v) := by
  constructor
  · intro heq
    subst heq
    obtain ⟨hif, hig⟩ := ends_lt hv h hi
    obtain ⟨hkf, hkg⟩ := ends_lt hv h hk
    have hon : ∀ j, j < es.length → oth es s j v < n := fun j hj => by
      unfold oth
      split
      · exact (ends_lt hv h hj).2
      · exact (ends_lt hv h hj).1
    -- an edge below a head at v, and one that isn't: two heads
    have key : ∀ {j l : Nat}, j < es.length → l < es.length → endAt es s j v → endAt es s l v → HD es s j e → HD es s l e → ∀ c, c < es.length → head es s c → fr es s c = v → Anc es s (go_ es s c) (oth es s j v) → Anc es s (go_ es s c) (oth es s l v) := by
      intro j l hj hl aj al hdj hdl c hc hh hcv hb
      subst hcv
      have ec : e = c := hdj.unique h (head_in hv h hj hc hh aj hb)
      subst ec
      by_cases hx : ∃ c', c' < es.length ∧ head es s c' ∧ fr es s c' = fr es s e ∧ Anc es s (go_ es s c') (oth es s l (fr es s e))
      · obtain ⟨c', hc', hh', hf', hb'⟩ := hx
        have := head_in hv h hl hc' hh' (by rw [hf']; exact al) (by rw [hf']; exact hb')
        rw [hdl.unique h this]
        rw [hdl.unique h this] at hb'
        exact hb'
      · exfalso
        obtain ⟨p, hp, tp, gp, r1⟩ := head_out hv h hl al (fun c' hc' hh' hf' hb' => hx ⟨c', hc', hh', hf', hb'⟩)
        obtain ⟨y, hy⟩ := HD.total hv h n p hp (by have := (rooted_of hv h.once h.hang h.side _ (ends_lt hv h hp).1).2.1; omega)
        have hye := (r1 y hy).unique h hdl
        subst hye
        have h3 := hy.height hv h
        have h4 := (tree_up hv h hp tp).2
        have h5 : Lo.ht es s p = hf es s y := by unfold Lo.ht hf; rw [gp]
        omega
    by_cases hx : ∃ c, c < es.length ∧ head es s c ∧ fr es s c = v ∧ Anc es s (go_ es s c) (oth es s i v)
    · obtain ⟨c, hc, hh, hcv, hb⟩ := hx
      have hb2 := key hi hk a1 a2 h1 h2 c hc hh hcv hb
      have q1 := below_conn hv h hc hh.1 (hon i hi) hb
      have q2 := below_conn hv h hc hh.1 (hon k hk) hb2
      rw [hcv] at q1 q2
      exact q1.trans q2.symm
    · have n1 : ∀ c, c < es.length → head es s c → fr es s c = v → ¬ Anc es s (go_ es s c) (oth es s i v) := fun c hc hh hf hb => hx ⟨c, hc, hh, hf, hb⟩
      have n2 : ∀ c, c < es.length → head es s c → fr es s c = v → ¬ Anc es s (go_ es s c) (oth es s k v) := fun c hc hh hf hb => n1 c hc hh hf (key hk hi a2 a1 h2 h1 c hc hh hf hb)
      obtain ⟨p, hp, tp, gp, _⟩ := head_out hv h hi a1 n1
      exact (out_conn hv h hi a1 n1 hp tp gp).trans (out_conn hv h hk a2 n2 hp tp gp).symm
  · exact fun hc => pair_head hv h hi hk ⟨v, a1, a2, hc⟩ h1 h2
end
end Bl
end Go.Proofs.YtalfpbalekbinaaGreat

/-
  Blocks, pure: counting; in how many blocks a vertex is.
-/
namespace Go.Proofs.YtalfpbalekbinaaGreat
namespace Bl
open Df Lo

theorem nodup_sub : ∀ {l1 l2 : List Nat}, l1.Nodup → (∀ x ∈ l1, x ∈ l2) → l1.length ≤ l2.length
  | [], _, _, _ => Nat.zero_le _
  | a :: l1, l2, hn, hs => by
    have ha : a ∈ l2 := hs a List.mem_cons_self
    obtain ⟨hna, hn'⟩ := List.nodup_cons.1 hn
    have h1 := nodup_sub (l1 := l1) (l2 := l2.erase a) hn' (fun x hx => (List.mem_erase_of_ne (fun e => hna (by rw [← e]; exact hx))).2 (hs x (List.mem_cons_of_mem _ hx)))
    have h2 := List.length_erase_of_mem ha
    have h3 := List.length_pos_of_mem ha
    show l1.length + 1 ≤ l2.length
    omega

open Classical in
/-- How many below n have P. -/
noncomputable def cnt (P : Nat → Prop) (n : Nat) : Nat := ((List.range n).filter fun a => decide (P a)).length

theorem cnt_zero (P : Nat → Prop) : cnt P 0 = 0 := rfl
open Classical in
theorem cnt_succ (P : Nat → Prop) (n : Nat) : cnt P (n + 1) = cnt P n + if P n then 1 else 0 := by
  unfold cnt
  rw [List.range_succ, List.filter_append, List.length_append]
  by_cases h : P n
  · rw [if_pos h]
    simp [h]
  · rw [if_neg h]
    simp [h]
open Classical in
theorem cnt_inj {P Q : Nat → Prop} {f : Nat → Nat} {n m : Nat} (hm : ∀ a, a < n → P a → f a < m ∧ Q (f a)) (hi : ∀ a b, a < n → b < n → P a → P b → f a = f b → a = b) : cnt P n ≤ cnt Q m := by
  have h1 : ((List.range n).filter fun a => decide (P a)).length = (((List.range n).filter fun a => decide (P a)).map f).length := by rw [List.length_map]
  unfold cnt
  rw [h1]
  refine nodup_sub ?_ (fun x hx => ?_)
  · unfold List.Nodup
    rw [List.pairwise_map]
    have hn : ((List.range n).filter fun a => decide (P a)).Nodup := List.Pairwise.filter _ List.nodup_range
    refine List.Pairwise.imp_of_mem ?_ hn
    intro a b ha hb hne e
    rw [List.mem_filter, List.mem_range, decide_eq_true_iff] at ha hb
    exact hne (hi a b ha.1 hb.1 ha.2 hb.2 e)
  · obtain ⟨a, ha, rfl⟩ := List.mem_map.1 hx
    rw [List.mem_filter, List.mem_range, decide_eq_true_iff] at ha
    rw [List.mem_filter, List.mem_range, decide_eq_true_iff]
    exact hm a ha.1 ha.2
theorem cnt_congr {P Q : Nat → Prop} {n : Nat} (h : ∀ a, a < n → (P a ↔ Q a)) : cnt P n = cnt Q n :=
  Nat.le_antisymm (cnt_inj (f := id) (fun a ha hp => ⟨ha, (h a ha).1 hp⟩) (fun _ _ _ _ _ _ e => e)) (cnt_inj (f := id) (fun a ha hp => ⟨ha, (h a ha).2 hp⟩) (fun _ _ _ _ _ _ e => e))
theorem cnt_none {P : Nat → Prop} {n : Nat} (h : ∀ a, a < n → ¬ P a) : cnt P n = 0 := by
  induction n with
  | zero => rfl
  | succ n ih =>
    rw [cnt_succ, ih (fun a ha => h a (by omega)), if_neg (h n (by omega))]
open Classical in
theorem cnt_or {P Q : Nat → Prop} {n : Nat} (h : ∀ a, a < n → ¬ (P a ∧ Q a)) : cnt (fun a => P a ∨ Q a) n = cnt P n + cnt Q n := by
  induction n with
  | zero => rfl
  | succ n ih =>
    rw [cnt_succ, cnt_succ, cnt_succ, ih (fun a ha => h a (by omega))]
    have := h n (by omega)
    by_cases hp : P n <;> by_cases hq : Q n <;> simp [hp, hq] <;> first | omega | exact absurd ⟨hp, hq⟩ this
theorem cnt_one {n x : Nat} (hx : x < n) : cnt (fun a => a = x) n = 1 := by
  induction n with
  | zero => omega
  | succ n ih =>
    rw [cnt_succ]
    by_cases e : n = x
    · rw [if_pos e, cnt_none (fun a ha => by omega)]
    · rw [if_neg e, ih (by omega)]

/-- The sum over the first n. -/
def sumTo (f : Nat → Nat) : Nat → Nat
  | 0 => 0
  | n + 1 => sumTo f n + f n
theorem sumTo_add (f g : Nat → Nat) : ∀ n, sumTo (fun a => f a + g a) n = sumTo f n + sumTo g n
  | 0 => rfl
  | n + 1 => by
    show sumTo (fun a => f a + g a) n + (f n + g n) = sumTo f n + f n + (sumTo g n + g n)
    rw [sumTo_add f g n]
    omega
theorem sumTo_congr {f g : Nat → Nat} : ∀ n, (∀ a, a < n → f a = g a) → sumTo f n = sumTo g n
  | 0, _ => rfl
  | n + 1, h => by
    show sumTo f n + f n = sumTo g n + g n
    rw [sumTo_congr n (fun a ha => h a (by omega)), h n (by omega)]
open Classical in
theorem sumTo_ind (P : Nat → Prop) : ∀ n, sumTo (fun a => if P a then 1 else 0) n = cnt P n
  | 0 => rfl
  | n + 1 => by
    show sumTo (fun a => if P a then 1 else 0) n + (if P n then 1 else 0) = cnt P (n + 1)
    rw [sumTo_ind P n, cnt_succ]
/-- Each of those that have P is counted where g sends it. -/
theorem sumTo_fib {P : Nat → Prop} {g : Nat → Nat} {m : Nat} (n : Nat) (h : ∀ a, a < m → P a → g a < n) : sumTo (fun v => cnt (fun a => P a ∧ g a = v) m) n = cnt P m := by
  classical
  induction m with
  | zero =>
    have : ∀ n, sumTo (fun v => cnt (fun a => P a ∧ g a = v) 0) n = 0 := fun n => by
      induction n with
      | zero => rfl
      | succ n ih => show sumTo _ n + cnt _ 0 = 0; rw [ih, cnt_zero]
    rw [this n, cnt_zero]
  | succ m ih =>
    have e : ∀ v, cnt (fun a => P a ∧ g a = v) (m + 1) = cnt (fun a => P a ∧ g a = v) m + if P m ∧ g m = v then 1 else 0 := fun v => by
      rw [cnt_succ]
      by_cases hh : P m ∧ g m = v
      · rw [if_pos hh, if_pos hh]
      · rw [if_neg hh, if_neg hh]
    have e2 : sumTo (fun v => if P m ∧ g m = v then 1 else 0) n = cnt (fun v => P m ∧ g m = v) n := by
      rw [← sumTo_ind]
      refine sumTo_congr n (fun v _ => ?_)
      by_cases hh : P m ∧ g m = v
      · rw [if_pos hh, if_pos hh]
      · rw [if_neg hh, if_neg hh]
    rw [sumTo_congr n (fun v _ => e v), sumTo_add, ih (fun a ha => h a (by omega)), e2, cnt_succ]
    by_cases hp : P m
    · have e3 : cnt (fun v => P m ∧ g m = v) n = cnt (fun v => v = g m) n := cnt_congr (fun v _ => ⟨fun h => h.2.symm, fun h => ⟨hp, h.symm⟩⟩)
      rw [if_pos hp, e3, cnt_one (h m (by omega) hp)]
    · have e3 : cnt (fun v => P m ∧ g m = v) n = 0 := cnt_none (fun v _ h => hp h.1)
      rw [if_neg hp, e3]
end Bl
end Go.Proofs.YtalfpbalekbinaaGreat

/-
  Blocks, pure: in how many blocks a vertex is; the sum over the vertices (P9.4).
-/
namespace Go.Proofs.YtalfpbalekbinaaGreat
namespace Bl
open Df Lo

section
variable {n : Nat} {es : List (Int × Int)} {s : St} {v : Nat}

open Classical in
/-- The head of an edge's block. -/
noncomputable def hdf (es : List (Int × Int)) (s : St) (k : Nat) : Nat := if hx : ∃ x, HD es s k x then Classical.choose hx else 0
open Classical in
theorem hdf_of (hv : Si.Val n es) (h : VF n es s) {k : Nat} (hk : k < es.length) : HD es s k (hdf es s k) := by
  have hex := HD.total hv h n k hk (by have := (rooted_of hv h.once h.hang h.side _ (ends_lt hv h hk).1).2.1; omega)
  unfold hdf
  rw [dif_pos hex]
  exact Classical.choose_spec hex
theorem hdf_eq (hv : Si.Val n es) (h : VF n es s) {k e : Nat} (hk : HD es s k e) : hdf es s k = e := (hdf_of hv h hk.lt.1).unique h hk

/-- The block with head e has an edge at v. -/
def atB (es : List (Int × Int)) (s : St) (v e : Nat) : Prop := ∃ i, i < es.length ∧ endAt es s i v ∧ HD es s i e
/-- v hangs by an edge. -/
def hangs (es : List (Int × Int)) (s : St) (v : Nat) : Prop := ∃ p, p < es.length ∧ tree es s p = true ∧ go_ es s p = v
/-- The block of the edge by which v hangs has the head e. -/
def upB (es : List (Int × Int)) (s : St) (v e : Nat) : Prop := ∃ p, p < es.length ∧ tree es s p = true ∧ go_ es s p = v ∧ HD es s p e

theorem atB_iff (hv : Si.Val n es) (h : VF n es s) {e : Nat} : atB es s v e ↔ (e < es.length ∧ head es s e ∧ fr es s e = v) ∨ upB es s v e := by
  constructor
  · rintro ⟨i, hi, ha, hd⟩
    by_cases hx : ∃ c, c < es.length ∧ head es s c ∧ fr es s c = v ∧ Anc es s (go_ es s c) (oth es s i v)
    · obtain ⟨c, hc, hh, rfl, hb⟩ := hx
      rw [hd.unique h (head_in hv h hi hc hh ha hb)]
      exact .inl ⟨hc, hh, rfl⟩
    · obtain ⟨p, hp, tp, gp, r1⟩ := head_out hv h hi ha (fun c hc hh hf hb => hx ⟨c, hc, hh, hf, hb⟩)
      have hy := hdf_of hv h hp
      rw [hd.unique h (r1 _ hy)]
      exact .inr ⟨p, hp, tp, gp, hy⟩
  · rintro (⟨he, hh, hf⟩ | ⟨p, hp, tp, gp, hd⟩)
    · exact ⟨e, he, .inl hf, .self he hh⟩
    · exact ⟨p, hp, .inr gp, hd⟩
theorem atB_two (hv : Si.Val n es) (h : VF n es s) {e : Nat} : ¬ ((e < es.length ∧ head es s e ∧ fr es s e = v) ∧ upB es s v e) := by
  rintro ⟨⟨_, _, hf'⟩, p, hp, tp, gp, hd⟩
  have h3 := hd.height hv h
  have h4 := (tree_up hv h hp tp).2
  have h5 : Lo.ht es s p = hf es s e := by unfold Lo.ht hf; rw [gp, hf']
  omega

/-- How many blocks are at v; how many of them begin there. -/
noncomputable def inH (es : List (Int × Int)) (s : St) (v : Nat) : Nat := cnt (fun e => atB es s v e) es.length
noncomputable def hc (es : List (Int × Int)) (s : St) (v : Nat) : Nat := cnt (fun e => head es s e ∧ fr es s e = v) es.length

open Classical in
theorem inB_eq (hv : Si.Val n es) (h : VF n es s) : inH es s v = hc es s v + if hangs es s v then 1 else 0 := by
  unfold inH hc
  rw [cnt_congr (Q := fun e => (head es s e ∧ fr es s e = v) ∨ upB es s v e) (fun e he => by
    rw [atB_iff hv h]
    exact ⟨fun hx => hx.elim (fun a => .inl a.2) .inr, fun hx => hx.elim (fun a => .inl ⟨he, a⟩) .inr⟩), cnt_or (fun e he hx => atB_two hv h ⟨⟨he, hx.1⟩, hx.2⟩)]
  congr 1
  by_cases hg : hangs es s v
  · rw [if_pos hg]
    obtain ⟨p, hp, tp, gp⟩ := hg
    have hd := hdf_of hv h hp
    rw [cnt_congr (Q := fun e => e = hdf es s p) (fun e _ => ⟨fun ⟨q, hq, tq, gq, hd'⟩ => by
      have := tree_one h hp hq tp tq (gp.trans gq.symm)
      subst this
      exact hd'.unique h hd, fun he => ⟨p, hp, tp, gp, by rw [he]; exact hd⟩⟩)]
    exact cnt_one hd.lt.2.1
  · rw [if_neg hg]
    exact cnt_none (fun e _ ⟨q, hq, tq, gq, _⟩ => hg ⟨q, hq, tq, gq⟩)

/-- A root with an edge begins a block. -/
theorem root_begins (hv : Si.Val n es) (h : VF n es s) {i : Nat} (hi : i < es.length) (ha : endAt es s i v) (hr : ¬ hangs es s v) : 0 < hc es s v := by
  have hx : ∃ c, c < es.length ∧ head es s c ∧ fr es s c = v := by
    by_cases hx : ∃ c, c < es.length ∧ head es s c ∧ fr es s c = v ∧ Anc es s (go_ es s c) (oth es s i v)
    · obtain ⟨c, h1, h2, h3, _⟩ := hx
      exact ⟨c, h1, h2, h3⟩
    · obtain ⟨p, hp, tp, gp, _⟩ := head_out hv h hi ha (fun c hc hh hf hb => hx ⟨c, hc, hh, hf, hb⟩)
      exact absurd ⟨p, hp, tp, gp⟩ hr
  obtain ⟨c, h1, h2, h3⟩ := hx
  have := cnt_inj (P := fun a => a = c) (Q := fun e => head es s e ∧ fr es s e = v) (f := id) (n := es.length) (m := es.length) (fun a ha hp => by
    have hp : a = c := hp
    subst hp
    exact ⟨ha, h2, h3⟩) (fun _ _ _ _ _ _ e => e)
  rw [cnt_one h1] at this
  exact this

open Classical in
/-- The sum over the vertices of how many blocks they are in, less one each, and the roots that have edges, are the blocks. -/
theorem sum_blocks (hv : Si.Val n es) (h : VF n es s) : sumTo (fun v => inH es s v - 1) n + cnt (fun v => ¬ hangs es s v ∧ 0 < hc es s v) n = cnt (fun e => head es s e) es.length := by
  rw [← sumTo_fib (g := fr es s) n (fun a ha _ => (ends_lt hv h ha).1), ← sumTo_ind, ← sumTo_add]
  refine sumTo_congr n (fun v _ => ?_)
  change inH es s v - 1 + _ = hc es s v
  rw [inB_eq hv h]
  by_cases hg : hangs es s v
  · rw [if_pos hg, if_neg (fun hx => hx.1 hg)]
    omega
  · rw [if_neg hg]
    by_cases h0 : 0 < hc es s v
    · rw [if_pos ⟨hg, h0⟩]
      omega
    · rw [if_neg (fun hx => h0 hx.2)]
      omega
end
end Bl
end Go.Proofs.YtalfpbalekbinaaGreat

/-
  Blocks, pure: the finder's stack: which edges lie on it, and which blocks have been taken off.
-/
namespace Go.Proofs.YtalfpbalekbinaaGreat
namespace Bl
open Df Lo

section
variable {n : Nat} {es : List (Int × Int)} {s : St} {v : Nat}

/-- The vertex at whose coming an edge is laid on the stack. -/
def ev (es : List (Int × Int)) (s : St) (e : Nat) : Nat := if tree es s e = true then go_ es s e else fr es s e
theorem ev_tree {e : Nat} (h : tree es s e = true) : ev es s e = go_ es s e := by unfold ev; rw [if_pos h]
theorem ev_back {e : Nat} (h : tree es s e = false) : ev es s e = fr es s e := by unfold ev; rw [if_neg (by rw [h]; decide)]
theorem ev_lt (hv : Si.Val n es) (h : VF n es s) {e : Nat} (he : e < es.length) : ev es s e < n := by
  unfold ev
  split
  · exact (ends_lt hv h he).2
  · exact (ends_lt hv h he).1

/-- An edge stands below its block's head. -/
theorem HD.under (hv : Si.Val n es) (h : VF n es s) {k c : Nat} (hd : HD es s k c) : Anc es s (go_ es s c) (ev es s k) := by
  induction hd with
  | @self e he hh =>
    rw [ev_tree hh.1]
    exact anc_self h (ends_lt hv h he).2
  | @up k p e hk hn hp tp gp _ ih =>
    rw [ev_tree tp, gp] at ih
    cases tk : tree es s k with
    | true =>
      rw [ev_tree tk]
      exact anc_trans ih (child_anc hv h hk tk)
    | false =>
      rw [ev_back tk]
      exact ih
/-- What stands below a head has its own head there. -/
theorem HD.stays (hv : Si.Val n es) (h : VF n es s) {t k c : Nat} (ht : t < es.length) (hh : head es s t) (hd : HD es s k c) : Anc es s (go_ es s t) (ev es s k) → Anc es s (go_ es s t) (go_ es s c) := by
  induction hd with
  | @self e he hh' =>
    rw [ev_tree hh'.1]
    exact fun ha => ha
  | @up k p e hk hn hp tp gp _ ih =>
    intro ha
    refine ih ?_
    rw [ev_tree tp, gp]
    cases tk : tree es s k with
    | true =>
      rw [ev_tree tk] at ha
      by_cases e1 : go_ es s t = go_ es s k
      · have := tree_one h ht hk hh.1 tk e1
        subst this
        exact absurd hh hn
      · exact anc_parent hv h hk tk ha e1
    | false =>
      rw [ev_back tk] at ha
      exact ha

/-- A tree edge leads no lower than each back edge below it. -/
theorem low_le_ht {t b : Nat} (tt : tree es s t = true) (hb : b < es.length) (tb : tree es s b = false) (ha : Anc es s (go_ es s t) (fr es s b)) : low es s t ≤ ht es s b := by
  by_cases hl : ht es s b < hf es s t
  · exact (least_le (hf es s t) (hs es s t)).2 (ht es s b) (List.mem_map.2 ⟨b, (mem_rets_tree tt).2 ⟨hb, tb, hl, ha⟩, rfl⟩)
  · have := (least_le (hf es s t) (hs es s t)).1
    have e : low es s t = least (hf es s t) (hs es s t) := rfl
    omega
/-- .. and its height is one of these, or where it begins. -/
theorem low_cases {t : Nat} (tt : tree es s t = true) : low es s t = hf es s t ∨ ∃ b, b < es.length ∧ tree es s b = false ∧ Anc es s (go_ es s t) (fr es s b) ∧ low es s t = ht es s b := by
  rcases least_mem (hf es s t) (hs es s t) with h2 | h2
  · exact .inl h2
  · obtain ⟨b, hb, hb2⟩ := List.mem_map.1 h2
    obtain ⟨b1, b2, b3, b4⟩ := (mem_rets_tree tt).1 hb
    exact .inr ⟨b, b1, b2, b4, hb2.symm⟩

/-- Tree edges one behind the other, from a root down. -/
structure Path (es : List (Int × Int)) (s : St) (T : List Nat) : Prop where
  edge : ∀ i t : Nat, T[i]? = some t → t < es.length ∧ tree es s t = true ∧ hf es s t = (i : Int)
  next : ∀ i t t' : Nat, T[i]? = some t → T[i + 1]? = some t' → fr es s t' = go_ es s t

theorem Path.ht (hv : Si.Val n es) (h : VF n es s) {T : List Nat} (P : Path es s T) {i t : Nat} (hi : T[i]? = some t) : at_ s.hei (go_ es s t) = (i : Int) + 1 := by
  obtain ⟨h1, h2, h3⟩ := P.edge i t hi
  have := (tree_up hv h h1 h2).2
  unfold Lo.ht at this
  omega
theorem Path.inj {T : List Nat} (P : Path es s T) {i k t : Nat} (hi : T[i]? = some t) (hk : T[k]? = some t) : i = k := by
  have h1 := (P.edge i t hi).2.2
  have h2 := (P.edge k t hk).2.2
  omega
theorem Path.anc (hv : Si.Val n es) (h : VF n es s) {T : List Nat} (P : Path es s T) {i t : Nat} (hi : T[i]? = some t) : ∀ (d : Nat) (t' : Nat), T[i + d]? = some t' → Anc es s (go_ es s t) (go_ es s t')
  | 0, t', hk => by
    rw [Nat.add_zero, hi] at hk
    cases hk
    exact anc_self h (ends_lt hv h (P.edge i _ hi).1).2
  | d + 1, t', hk => by
    obtain ⟨t1, h1⟩ : ∃ t1, T[i + d]? = some t1 := ⟨_, List.getElem?_eq_getElem (by have := (List.getElem?_eq_some_iff.1 hk).1; omega)⟩
    have ih := Path.anc hv h P hi d t1 h1
    have hn := P.next (i + d) t1 t' h1 hk
    obtain ⟨k1, k2, _⟩ := P.edge _ _ hk
    have hc := child_anc hv h k1 k2
    rw [hn] at hc
    exact anc_trans ih hc
/-- The heads of the edges of a path are on it. -/
theorem Path.head (hv : Si.Val n es) (h : VF n es s) {T : List Nat} (P : Path es s T) : ∀ (i t : Nat), T[i]? = some t → hdf es s t ∈ T := by
  intro i
  induction i with
  | zero =>
    intro t ht
    obtain ⟨h1, h2, h3⟩ := P.edge 0 t ht
    have hh : Bl.head es s t := ⟨h2, by have := low_nonneg hv h h1; omega⟩
    rw [hdf_eq hv h (.self h1 hh)]
    exact List.mem_of_getElem? ht
  | succ i ih =>
    intro t ht
    obtain ⟨h1, h2, h3⟩ := P.edge _ t ht
    by_cases hh : Bl.head es s t
    · rw [hdf_eq hv h (.self h1 hh)]
      exact List.mem_of_getElem? ht
    · obtain ⟨t1, e1⟩ : ∃ t1, T[i]? = some t1 := ⟨_, List.getElem?_eq_getElem (by have := (List.getElem?_eq_some_iff.1 ht).1; omega)⟩
      obtain ⟨k1, k2, _⟩ := P.edge _ _ e1
      have := ih t1 e1
      rw [hdf_eq hv h (.up h1 hh k1 k2 (P.next i t1 t e1 ht).symm (hdf_of hv h k1))]
      exact this
theorem Path.front {T : List Nat} {t : Nat} (P : Path es s (T ++ [t])) : Path es s T := by
  have hg : ∀ i x, T[i]? = some x → (T ++ [t])[i]? = some x := fun i x hx => by
    rw [List.getElem?_append_left (List.getElem?_eq_some_iff.1 hx).1]
    exact hx
  exact ⟨fun i x hx => P.edge i x (hg i x hx), fun i x y hx hy => P.next i x y (hg i x hx) (hg _ y hy)⟩
theorem last_at {α : Type} (T : List α) (t : α) : (T ++ [t])[T.length]? = some t := by simp
theorem Path.more {T : List Nat} {t : Nat} (P : Path es s T) (h1 : t < es.length) (h2 : tree es s t = true) (h3 : hf es s t = (T.length : Int)) (h4 : ∀ t', T.getLast? = some t' → fr es s t = go_ es s t') : Path es s (T ++ [t]) := by
  have split : ∀ i x, (T ++ [t])[i]? = some x → T[i]? = some x ∨ (i = T.length ∧ x = t) := fun i x hx => by
    by_cases hi : i < T.length
    · rw [List.getElem?_append_left hi] at hx
      exact .inl hx
    · have hl := (List.getElem?_eq_some_iff.1 hx).1
      simp at hl
      obtain rfl : i = T.length := by omega
      rw [last_at] at hx
      cases hx
      exact .inr ⟨rfl, rfl⟩
  refine ⟨fun i x hx => ?_, fun i x y hx hy => ?_⟩
  · rcases split i x hx with hx | ⟨rfl, rfl⟩
    · exact P.edge i x hx
    · exact ⟨h1, h2, h3⟩
  · rcases split _ y hy with hy1 | ⟨e, rfl⟩
    · have hyl := (List.getElem?_eq_some_iff.1 hy1).1
      rcases split i x hx with hx1 | ⟨e2, _⟩
      · exact P.next i x y hx1 hy1
      · omega
    · rcases split i x hx with hx1 | ⟨e2, _⟩
      · refine h4 x ?_
        rw [List.getLast?_eq_getElem?, ← e]
        exact hx1
      · omega

/-- What the low of a tree edge on the way says, as far as has been seen. -/
def LowAt (es : List (Int × Int)) (s : St) (X : Nat → Prop) (T : List Nat) (i t : Nat) (l : Int) : Prop :=
  low es s t ≤ l ∧ l ≤ (i : Int) ∧ ∀ b, b < es.length → tree es s b = false → X b → Anc es s (go_ es s t) (fr es s b) → (∀ t', T[i + 1]? = some t' → ¬ Anc es s (go_ es s t') (fr es s b)) → l ≤ ht es s b

/-- The finder: edges X have been laid; the way's tree edges T; the stack S; their places Y; the blocks F. -/
structure Fi (es : List (Int × Int)) (s : St) (X : Nat → Prop) (T : List Nat) (S : List (Nat × Int)) (Y : List Nat) (F : List (List Nat)) : Prop where
  path : Path es s T
  laid : ∀ t ∈ T, X t
  mem : ∀ e, e ∈ S.map Prod.fst ↔ (e < es.length ∧ X e ∧ hdf es s e ∈ T)
  nod : (S.map Prod.fst).Nodup
  len : Y.length = T.length
  way : ∀ i a : Nat, Y[i]? = some a → ∃ t l, T[i]? = some t ∧ S[a]? = some (t, l) ∧ (∀ (p : Nat) (q : Nat × Int), S[p]? = some q → (a ≤ p ↔ Anc es s (go_ es s t) (ev es s q.1))) ∧ LowAt es s X T i t l
  pos : ∀ q ∈ S, 0 ≤ q.2
  one : ∀ B ∈ F, ∃ c, c < es.length ∧ head es s c ∧ X c ∧ c ∉ T ∧ B.Nodup ∧ ∀ e, e ∈ B ↔ (e < es.length ∧ hdf es s e = c)
  all : ∀ c, c < es.length → head es s c → X c → c ∉ T → ∃ B ∈ F, c ∈ B
  apart : F.Pairwise fun B B' => ∀ e ∈ B, e ∉ B'

theorem Fi.start (es : List (Int × Int)) (s : St) {X : Nat → Prop} (hX : ∀ e, e < es.length → ¬ X e) : Fi es s X [] [] [] [] :=
  ⟨⟨fun i t h => by simp at h, fun i t t' h => by simp at h⟩, fun t h => by simp at h, fun e => ⟨fun h => by simp at h, fun h => absurd h.2.1 (hX e h.1)⟩, by simp, rfl, fun i a h => by simp at h, fun q h => by simp at h, fun B h => by simp at h, fun c hc _ hx => absurd hx (hX c hc), List.Pairwise.nil⟩

theorem Fi.congr {X X' : Nat → Prop} {T : List Nat} {S : List (Nat × Int)} {Y : List Nat} {F : List (List Nat)} (f : Fi es s X T S Y F) (hX : ∀ e, e < es.length → (X e ↔ X' e)) : Fi es s X' T S Y F where
  path := f.path
  laid := fun t ht => by
    obtain ⟨i, hi⟩ := List.getElem?_of_mem ht
    exact (hX t (f.path.edge i t hi).1).1 (f.laid t ht)
  mem := fun e => (f.mem e).trans ⟨fun h => ⟨h.1, (hX e h.1).1 h.2.1, h.2.2⟩, fun h => ⟨h.1, (hX e h.1).2 h.2.1, h.2.2⟩⟩
  nod := f.nod
  len := f.len
  way := fun i a h => by
    obtain ⟨t, l, h1, h2, h3, h4, h5, h6⟩ := f.way i a h
    exact ⟨t, l, h1, h2, h3, h4, h5, fun b hb tb xb => h6 b hb tb ((hX b hb).2 xb)⟩
  pos := f.pos
  one := fun B hB => by
    obtain ⟨c, h1, h2, h3, h4⟩ := f.one B hB
    exact ⟨c, h1, h2, (hX c h1).1 h3, h4⟩
  all := fun c h1 h2 h3 => f.all c h1 h2 ((hX c h1).2 h3)
  apart := f.apart

theorem mem_map_fst {S : List (Nat × Int)} {p : Nat} {q : Nat × Int} (h : S[p]? = some q) : q.1 ∈ S.map Prod.fst := List.mem_map.2 ⟨q, List.mem_of_getElem? h, rfl⟩
theorem split_last {α : Type} {T : List α} {t x : α} {i : Nat} (h : (T ++ [t])[i]? = some x) : (i < T.length ∧ T[i]? = some x) ∨ (i = T.length ∧ x = t) := by
  by_cases hi : i < T.length
  · rw [List.getElem?_append_left hi] at h
    exact .inl ⟨hi, h⟩
  · have hl := (List.getElem?_eq_some_iff.1 h).1
    simp at hl
    obtain rfl : i = T.length := by omega
    rw [last_at] at h
    cases h
    exact .inr ⟨rfl, rfl⟩

/-- A tree edge is laid. -/
theorem Fi.push (hv : Si.Val n es) (h : VF n es s) {X : Nat → Prop} {T : List Nat} {S : List (Nat × Int)} {Y : List Nat} {F : List (List Nat)} (f : Fi es s X T S Y F) {t : Nat} (h1 : t < es.length) (h2 : tree es s t = true) (h3 : hf es s t = (T.length : Int)) (h4 : ∀ t', T.getLast? = some t' → fr es s t = go_ es s t')
    (hX : ∀ e, e < es.length → Anc es s (go_ es s t) (ev es s e) → ¬ X e) : Fi es s (fun e => X e ∨ e = t) (T ++ [t]) (S ++ [(t, hf es s t)]) (Y ++ [S.length]) F := by
  have hP := f.path.more h1 h2 h3 h4
  have hself := anc_self h (ends_lt hv h h1).2
  have hXt : ¬ X t := hX t h1 (by rw [ev_tree h2]; exact hself)
  have hold : ∀ e, e < es.length → X e → hdf es s e ≠ t := fun e he hx e1 => hX e he (by
    have := (hdf_of hv h he).under hv h
    rw [e1] at this
    exact this) hx
  have hanc : ∀ i x, T[i]? = some x → Anc es s (go_ es s x) (go_ es s t) := fun i x hx => by
    have hi := (List.getElem?_eq_some_iff.1 hx).1
    refine hP.anc hv h (i := i) (by rw [List.getElem?_append_left hi]; exact hx) (T.length - i) t ?_
    rw [show i + (T.length - i) = T.length by omega]
    exact last_at T t
  refine ⟨hP, fun x hx => ?_, fun e => ?_, ?_, by simp [f.len], fun i a ha => ?_, fun q hq => ?_, fun B hB => ?_, fun c c1 c2 c3 c4 => ?_, f.apart⟩
  · rcases List.mem_append.1 hx with hx | hx
    · exact .inl (f.laid x hx)
    · exact .inr (List.mem_singleton.1 hx)
  · rw [List.map_append, List.mem_append, f.mem e]
    constructor
    · rintro (⟨a, b, c⟩ | hx)
      · exact ⟨a, .inl b, List.mem_append_left _ c⟩
      · have : e = t := by simpa using hx
        subst this
        exact ⟨h1, .inr rfl, hP.head hv h _ _ (last_at T e)⟩
    · rintro ⟨a, b | rfl, c⟩
      · rcases List.mem_append.1 c with c | c
        · exact .inl ⟨a, b, c⟩
        · exact absurd (List.mem_singleton.1 c) (hold e a b)
      · exact .inr (by simp)
  · rw [List.map_append, List.nodup_append]
    refine ⟨f.nod, by simp, fun a ha b hb e1 => ?_⟩
    have : b = t := by simpa using hb
    subst this
    subst e1
    exact hXt ((f.mem a).1 ha).2.1
  · rcases split_last ha with ⟨hi, ha⟩ | ⟨rfl, rfl⟩
    · obtain ⟨x, l, k1, k2, k3, k4, k5, k6⟩ := f.way i a ha
      have hal := (List.getElem?_eq_some_iff.1 k2).1
      refine ⟨x, l, by rw [List.getElem?_append_left (by have := f.len; omega)]; exact k1, by rw [List.getElem?_append_left hal]; exact k2, fun p q hq => ?_, k4, k5, fun b hb tb xb ab nb => ?_⟩
      · rcases split_last hq with ⟨_, hq⟩ | ⟨rfl, rfl⟩
        · exact k3 p q hq
        · refine ⟨fun _ => ?_, fun _ => by omega⟩
          show Anc es s (go_ es s x) (ev es s t)
          rw [ev_tree h2]
          exact hanc i x k1
      · rcases xb with xb | rfl
        · refine k6 b hb tb xb ab (fun t' ht' => nb t' ?_)
          rw [List.getElem?_append_left (List.getElem?_eq_some_iff.1 ht').1]
          exact ht'
        · rw [h2] at tb
          cases tb
    · rw [f.len]
      refine ⟨t, hf es s t, last_at T t, last_at S _, fun p q hq => ?_, by have := low_le es s t; omega, by omega, fun b hb tb xb ab _ => ?_⟩
      · rcases split_last hq with ⟨hp, hq⟩ | ⟨rfl, rfl⟩
        · obtain ⟨m1, m2, _⟩ := (f.mem q.1).1 (mem_map_fst hq)
          exact ⟨fun hle => by omega, fun ha' => absurd m2 (hX _ m1 ha')⟩
        · refine ⟨fun _ => ?_, fun _ => Nat.le_refl _⟩
          show Anc es s (go_ es s t) (ev es s t)
          rw [ev_tree h2]
          exact hself
      · rcases xb with xb | rfl
        · exact absurd xb (hX b hb (by rw [ev_back tb]; exact ab))
        · rw [h2] at tb
          cases tb
  · rcases List.mem_append.1 hq with hq | hq
    · exact f.pos q hq
    · rw [List.mem_singleton.1 hq]
      show 0 ≤ hf es s t
      omega
  · obtain ⟨c, c1, c2, c3, c4, c5⟩ := f.one B hB
    refine ⟨c, c1, c2, .inl c3, fun hc => ?_, c5⟩
    rcases List.mem_append.1 hc with hc | hc
    · exact c4 hc
    · rw [List.mem_singleton.1 hc] at c3
      exact hXt c3
  · rcases c3 with c3 | rfl
    · exact f.all c c1 c2 c3 (fun hc => c4 (List.mem_append_left _ hc))
    · exact absurd (List.mem_append_right _ (List.mem_singleton.2 rfl)) c4
end
end Bl
end Go.Proofs.YtalfpbalekbinaaGreat
