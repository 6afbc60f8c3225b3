import Derived.Test.YtalfpbalekbinaaGreatMg08
import Derived.Test.YtalfpbalekbinaaGreatMg01
import Derived.Laws.AppendOwnNone
import Derived.Deep.AppendLies
import Derived.Test.YtalfpbalekbinaaGreatMg00
import Derived.Maps.AppendAt
/-
  Blocks, pure: the finder lays back edges; it goes back by a tree edge, and takes a block off.
-/
namespace Go.Proofs.YtalfpbalekbinaaGreat
namespace Bl
open Df Lo

section
variable {n : Nat} {es : List (Int × Int)} {s : St} {v : Nat}

theorem set_fst {S : List (Nat × Int)} {a t : Nat} {l l' : Int} (h : S[a]? = some (t, l)) : (S.set a (t, l')).map Prod.fst = S.map Prod.fst := by
  refine List.ext_getElem? fun i => ?_
  rw [List.getElem?_map, List.getElem?_map]
  by_cases e : a = i
  · subst e
    rw [List.getElem?_set_self (List.getElem?_eq_some_iff.1 h).1, h]
    rfl
  · rw [List.getElem?_set_ne e]
/-- A place of the stack, behind a low was written. -/
theorem set_at_fst {S : List (Nat × Int)} {a t p : Nat} {l l' : Int} {q : Nat × Int} (h : S[a]? = some (t, l)) (hq : (S.set a (t, l'))[p]? = some q) : ∃ q0, S[p]? = some q0 ∧ q0.1 = q.1 := by
  by_cases e : a = p
  · subst e
    rw [List.getElem?_set_self (List.getElem?_eq_some_iff.1 h).1] at hq
    cases hq
    exact ⟨_, h, rfl⟩
  · rw [List.getElem?_set_ne e] at hq
    exact ⟨q, hq, rfl⟩

/-- The last tree edge is told of a height. -/
theorem Fi.lower {X : Nat → Prop} {T : List Nat} {t : Nat} {S : List (Nat × Int)} {Y : List Nat} {a : Nat} {F : List (List Nat)} {l x : Int} (f : Fi es s X (T ++ [t]) S (Y ++ [a]) F) (hl : S[a]? = some (t, l)) (hx : low es s t ≤ x) (hx0 : 0 ≤ x) : Fi es s X (T ++ [t]) (S.set a (t, min l x)) (Y ++ [a]) F := by
  have hlen : Y.length = T.length := by simpa using f.len
  refine ⟨f.path, f.laid, fun e => by rw [set_fst hl]; exact f.mem e, by rw [set_fst hl]; exact f.nod, f.len, fun i b hb => ?_, fun q hq => ?_, f.one, f.all, f.apart⟩
  · obtain ⟨t', l', k1, k2, k3, k4, k5, k6⟩ := f.way i b hb
    have hp : ∀ (p : Nat) (q : Nat × Int), (S.set a (t, min l x))[p]? = some q → (b ≤ p ↔ Anc es s (go_ es s t') (ev es s q.1)) := fun p q hq => by
      obtain ⟨q0, e0, e1⟩ := set_at_fst hl hq
      rw [← e1]
      exact k3 p q0 e0
    by_cases e : a = b
    · subst e
      rw [hl] at k2
      cases k2
      refine ⟨t, min l x, k1, by rw [List.getElem?_set_self (List.getElem?_eq_some_iff.1 hl).1], hp, by omega, by omega, fun b hb tb xb ab nb => ?_⟩
      have := k6 b hb tb xb ab nb
      omega
    · exact ⟨t', l', k1, by rw [List.getElem?_set_ne e]; exact k2, hp, k4, k5, k6⟩
  · rcases List.mem_or_eq_of_mem_set hq with hq | rfl
    · exact f.pos q hq
    · have := f.pos _ (List.mem_of_getElem? hl)
      show 0 ≤ min l x
      dsimp only at this
      omega

/-- A back edge is laid, and the last tree edge told of it. -/
theorem Fi.back (hv : Si.Val n es) (h : VF n es s) {X : Nat → Prop} {T : List Nat} {t : Nat} {S : List (Nat × Int)} {Y : List Nat} {a : Nat} {F : List (List Nat)} {l : Int} (f : Fi es s X (T ++ [t]) S (Y ++ [a]) F) (hl : S[a]? = some (t, l)) {b : Nat} (hb : b < es.length) (tb : tree es s b = false) (fb : fr es s b = go_ es s t) (hX : ¬ X b) :
    Fi es s (fun e => X e ∨ e = b) (T ++ [t]) ((S ++ [(b, ht es s b)]).set a (t, min l (ht es s b))) (Y ++ [a]) F := by
  have hlen : Y.length = T.length := by simpa using f.len
  have hP := f.path
  obtain ⟨t1, t2, t3⟩ := hP.edge _ _ (last_at T t)
  have hgt := (ends_lt hv h t1).2
  have hbl : low es s t ≤ ht es s b := low_le_ht t2 hb tb (by rw [fb]; exact anc_self h hgt)
  have hb0 : 0 ≤ ht es s b := (rooted_of hv h.once h.hang h.side _ (ends_lt hv h hb).2).1
  have hnh : ¬ head es s b := fun hh => by rw [hh.1] at tb; cases tb
  have hhd : hdf es s b = hdf es s t := hdf_eq hv h (.up hb hnh t1 t2 fb.symm (hdf_of hv h t1))
  have hal := (List.getElem?_eq_some_iff.1 hl).1
  have hanc : ∀ i x, (T ++ [t])[i]? = some x → Anc es s (go_ es s x) (go_ es s t) := fun i x hx => by
    have hi := (List.getElem?_eq_some_iff.1 hx).1
    simp at hi
    refine hP.anc hv h (i := i) hx (T.length - i) t ?_
    rw [show i + (T.length - i) = T.length by omega]
    exact last_at T t
  have hSl : (S ++ [(b, ht es s b)])[a]? = some (t, l) := by rw [List.getElem?_append_left hal]; exact hl
  have f' : ∀ e, e ∈ (S ++ [(b, ht es s b)]).map Prod.fst ↔ (e < es.length ∧ (X e ∨ e = b) ∧ hdf es s e ∈ T ++ [t]) := fun e => by
    rw [List.map_append, List.mem_append, f.mem e]
    constructor
    · rintro (⟨p, q, r⟩ | hx)
      · exact ⟨p, .inl q, r⟩
      · have : e = b := by simpa using hx
        subst this
        exact ⟨hb, .inr rfl, by rw [hhd]; exact hP.head hv h _ _ (last_at T t)⟩
    · rintro ⟨p, q | rfl, r⟩
      · exact .inl ⟨p, q, r⟩
      · exact .inr (by simp)
  refine ⟨hP, fun x hx => .inl (f.laid x hx), fun e => by rw [set_fst hSl]; exact f' e, ?_, f.len, fun i c hc => ?_, fun q hq => ?_, fun B hB => ?_, fun c c1 c2 c3 c4 => ?_, f.apart⟩
  · rw [set_fst hSl, List.map_append, List.nodup_append]
    refine ⟨f.nod, by simp, fun x hx y hy e1 => ?_⟩
    have : y = b := by simpa using hy
    subst this
    subst e1
    exact hX ((f.mem x).1 hx).2.1
  · obtain ⟨t', l', k1, k2, k3, k4, k5, k6⟩ := f.way i c hc
    have hcl := (List.getElem?_eq_some_iff.1 k2).1
    have hp : ∀ (p : Nat) (q : Nat × Int), ((S ++ [(b, ht es s b)]).set a (t, min l (ht es s b)))[p]? = some q → (c ≤ p ↔ Anc es s (go_ es s t') (ev es s q.1)) := fun p q hq => by
      obtain ⟨q0, e0, e1⟩ := set_at_fst hSl hq
      rw [← e1]
      rcases split_last e0 with ⟨_, e0⟩ | ⟨rfl, rfl⟩
      · exact k3 p q0 e0
      · refine ⟨fun _ => ?_, fun _ => by omega⟩
        show Anc es s (go_ es s t') (ev es s b)
        rw [ev_back tb, fb]
        exact hanc i t' k1
    by_cases e : a = c
    · subst e
      rw [hl] at k2
      cases k2
      refine ⟨t, min l (ht es s b), k1, by rw [List.getElem?_set_self (by simp; omega)], hp, by omega, by omega, fun b' hb' tb' xb' ab' nb' => ?_⟩
      rcases xb' with xb' | rfl
      · have := k6 b' hb' tb' xb' ab' nb'
        omega
      · omega
    · refine ⟨t', l', k1, by rw [List.getElem?_set_ne e, List.getElem?_append_left hcl]; exact k2, hp, k4, k5, fun b' hb' tb' xb' ab' nb' => ?_⟩
      rcases xb' with xb' | rfl
      · exact k6 b' hb' tb' xb' ab' nb'
      · exfalso
        -- t' isn't the last: the next one stands above where b' begins
        rcases split_last hc with ⟨hi, hc'⟩ | ⟨_, rfl⟩
        · obtain ⟨t'', e2⟩ : ∃ t'', (T ++ [t])[i + 1]? = some t'' := ⟨_, List.getElem?_eq_getElem (by simp; omega)⟩
          refine nb' t'' e2 ?_
          rw [fb]
          exact hanc _ _ e2
        · exact e rfl
  · rcases List.mem_or_eq_of_mem_set hq with hq | rfl
    · rcases List.mem_append.1 hq with hq | hq
      · exact f.pos q hq
      · rw [List.mem_singleton.1 hq]
        exact hb0
    · have := f.pos _ (List.mem_of_getElem? hl)
      show 0 ≤ min l (ht es s b)
      dsimp only at this
      omega
  · obtain ⟨c, c1, c2, c3, c4⟩ := f.one B hB
    exact ⟨c, c1, c2, .inl c3, c4⟩
  · rcases c3 with c3 | rfl
    · exact f.all c c1 c2 c3 c4
    · exact absurd c2 hnh

/-- When all below the last tree edge is laid, its low is right. -/
theorem Fi.exact {X : Nat → Prop} {T : List Nat} {t : Nat} {S : List (Nat × Int)} {Y : List Nat} {a : Nat} {F : List (List Nat)} {l : Int} (f : Fi es s X (T ++ [t]) S (Y ++ [a]) F) (hl : S[a]? = some (t, l)) (hall : ∀ e, e < es.length → Anc es s (go_ es s t) (ev es s e) → X e) : l = low es s t ∧ hf es s t = (T.length : Int) ∧ t < es.length ∧ tree es s t = true := by
  have hlen : Y.length = T.length := by simpa using f.len
  obtain ⟨t1, t2, t3⟩ := f.path.edge _ _ (last_at T t)
  obtain ⟨t', l', k1, k2, k3, k4, k5, k6⟩ := f.way Y.length a (last_at Y a)
  rw [hl] at k2
  cases k2
  refine ⟨?_, t3, t1, t2⟩
  rcases low_cases t2 with e | ⟨b, b1, b2, b3, b4⟩
  · omega
  · have := k6 b b1 b2 (hall b b1 (by rw [ev_back b2]; exact b3)) b3 (fun x hx => by
      have := (List.getElem?_eq_some_iff.1 hx).1
      simp at this
      omega)
    omega

/-- The last tree edge is left: one comes back by it to above where it begins. -/
theorem Fi.leaveLow (hv : Si.Val n es) (h : VF n es s) {X : Nat → Prop} {T : List Nat} {t : Nat} {S : List (Nat × Int)} {Y : List Nat} {a : Nat} {F : List (List Nat)} {l : Int} (f : Fi es s X (T ++ [t]) S (Y ++ [a]) F) (hl : S[a]? = some (t, l)) (hall : ∀ e, e < es.length → Anc es s (go_ es s t) (ev es s e) → X e) (hlt : l < (T.length : Int)) :
    ∃ (T1 : List Nat) (t1 : Nat) (Y1 : List Nat) (a1 : Nat) (l1 : Int), T = T1 ++ [t1] ∧ Y = Y1 ++ [a1] ∧ S[a1]? = some (t1, l1) ∧ Fi es s X T (S.set a1 (t1, min l1 l)) Y F := by
  have hlen : Y.length = T.length := by simpa using f.len
  obtain ⟨e0, e3, e1, e2⟩ := f.exact hl hall
  have hl0 := low_nonneg hv h e1
  have hT : T ≠ [] := fun e => by rw [e] at hlt; simp at hlt; omega
  have hY : Y ≠ [] := fun e => hT (List.length_eq_zero_iff.1 (by rw [← hlen, e]; rfl))
  obtain ⟨T1, t1, rfl⟩ : ∃ T1 t1, T = T1 ++ [t1] := ⟨T.dropLast, T.getLast hT, (List.dropLast_concat_getLast hT).symm⟩
  obtain ⟨Y1, a1, rfl⟩ : ∃ Y1 a1, Y = Y1 ++ [a1] := ⟨Y.dropLast, Y.getLast hY, (List.dropLast_concat_getLast hY).symm⟩
  have hlen1 : Y1.length = T1.length := by simpa using hlen
  have hget : ∀ i x, (T1 ++ [t1])[i]? = some x → (T1 ++ [t1] ++ [t])[i]? = some x := fun i x hx => by rw [List.getElem?_append_left (List.getElem?_eq_some_iff.1 hx).1]; exact hx
  have hgetY : ∀ i x, (Y1 ++ [a1])[i]? = some x → (Y1 ++ [a1] ++ [a])[i]? = some x := fun i x hx => by rw [List.getElem?_append_left (List.getElem?_eq_some_iff.1 hx).1]; exact hx
  obtain ⟨t1', l1, k1, k2, -, -⟩ := f.way T1.length a1 (hgetY _ _ (by rw [← hlen1]; exact last_at Y1 a1))
  rw [hget _ _ (last_at T1 t1)] at k1
  cases k1
  refine ⟨T1, t1, Y1, a1, l1, rfl, rfl, k2, ?_⟩
  have hnh : ¬ head es s t := fun hh => by
    have := hh.2
    omega
  obtain ⟨q1, q2, q3⟩ := f.path.edge _ _ (hget _ _ (last_at T1 t1))
  have hnext : fr es s t = go_ es s t1 := f.path.next T1.length t1 t (hget _ _ (last_at T1 t1)) (by
    have := last_at (T1 ++ [t1]) t
    rwa [List.length_append, List.length_singleton] at this)
  have hct : Anc es s (go_ es s t1) (go_ es s t) := by
    have := child_anc hv h e1 e2
    rwa [hnext] at this
  have hlow1 : low es s t1 ≤ l := by
    rcases low_cases e2 with e | ⟨b, b1, b2, b3, b4⟩
    · omega
    · have := low_le_ht q2 b1 b2 (anc_trans hct b3)
      omega
  refine ⟨f.path.front, fun x hx => f.laid x (List.mem_append_left _ hx), fun e => ?_, by rw [set_fst k2]; exact f.nod, by simp [hlen1], fun i b hb => ?_, fun q hq => ?_, fun B hB => ?_, fun c c1 c2 c3 c4 => ?_, f.apart⟩
  · rw [set_fst k2, f.mem e]
    refine ⟨fun ⟨p, q, r⟩ => ⟨p, q, ?_⟩, fun ⟨p, q, r⟩ => ⟨p, q, List.mem_append_left _ r⟩⟩
    rcases List.mem_append.1 r with r | r
    · exact r
    · have hh := (hdf_of hv h p).lt.2.2
      rw [List.mem_singleton.1 r] at hh
      exact absurd hh hnh
  · obtain ⟨t', l', m1, m2, m3, m4, m5, m6⟩ := f.way i b (hgetY i b hb)
    have hiT : i < (T1 ++ [t1]).length := by have := (List.getElem?_eq_some_iff.1 hb).1; simp at this ⊢; omega
    have m1' : (T1 ++ [t1])[i]? = some t' := by rw [List.getElem?_append_left hiT] at m1; exact m1
    have hp : ∀ (p : Nat) (q : Nat × Int), (S.set a1 (t1, min l1 l))[p]? = some q → (b ≤ p ↔ Anc es s (go_ es s t') (ev es s q.1)) := fun p q hq => by
      obtain ⟨q0, e0, e1⟩ := set_at_fst k2 hq
      rw [← e1]
      exact m3 p q0 e0
    by_cases e : a1 = b
    · subst e
      rw [k2] at m2
      cases m2
      obtain rfl : i = T1.length := f.path.inj m1 (hget _ _ (last_at T1 t1))
      refine ⟨t1, min l1 l, m1', by rw [List.getElem?_set_self (List.getElem?_eq_some_iff.1 k2).1], hp, by omega, by omega, fun b hb tb xb ab _ => ?_⟩
      by_cases hbt : Anc es s (go_ es s t) (fr es s b)
      · have := low_le_ht e2 hb tb hbt
        omega
      · have := m6 b hb tb xb ab (fun x hx => by
          have e5 := last_at (T1 ++ [t1]) t
          rw [List.length_append, List.length_singleton, hx] at e5
          cases e5
          exact hbt)
        omega
    · refine ⟨t', l', m1', by rw [List.getElem?_set_ne e]; exact m2, hp, m4, m5, fun b' hb' tb' xb' ab' nb' => m6 b' hb' tb' xb' ab' (fun x hx => ?_)⟩
      rcases split_last hx with ⟨_, hx'⟩ | ⟨hi, rfl⟩
      · exact nb' x hx'
      · -- i would be the last of the shorter way
        exfalso
        have : i = T1.length := by simp at hi; omega
        subst this
        rw [List.getElem?_append_right (by omega)] at hb
        simp [hlen1] at hb
        exact e hb
  · rcases List.mem_or_eq_of_mem_set hq with hq | rfl
    · exact f.pos q hq
    · have := f.pos _ (List.mem_of_getElem? k2)
      show 0 ≤ min l1 l
      dsimp only at this
      omega
  · obtain ⟨c, c1, c2, c3, c4, c5⟩ := f.one B hB
    exact ⟨c, c1, c2, c3, fun hc => c4 (List.mem_append_left _ hc), c5⟩
  · refine f.all c c1 c2 c3 (fun hc => ?_)
    rcases List.mem_append.1 hc with hc | hc
    · exact c4 hc
    · rw [List.mem_singleton.1 hc] at c2
      exact hnh c2

/-- The last tree edge is left: it is a head, and what lies on the stack from it on is its block. -/
theorem Fi.leaveHead (hv : Si.Val n es) (h : VF n es s) {X : Nat → Prop} {T : List Nat} {t : Nat} {S : List (Nat × Int)} {Y : List Nat} {a : Nat} {F : List (List Nat)} {l : Int} (f : Fi es s X (T ++ [t]) S (Y ++ [a]) F) (hl : S[a]? = some (t, l)) (hall : ∀ e, e < es.length → Anc es s (go_ es s t) (ev es s e) → X e) (hlt : ¬ l < (T.length : Int)) :
    Fi es s X T (S.take a) Y (F ++ [(S.drop a).map Prod.fst]) := by
  have hlen : Y.length = T.length := by simpa using f.len
  obtain ⟨e0, e3, e1, e2⟩ := f.exact hl hall
  have hh : head es s t := ⟨e2, by omega⟩
  have hget : ∀ i x, T[i]? = some x → (T ++ [t])[i]? = some x := fun i x hx => by rw [List.getElem?_append_left (List.getElem?_eq_some_iff.1 hx).1]; exact hx
  have hgetY : ∀ i x, Y[i]? = some x → (Y ++ [a])[i]? = some x := fun i x hx => by rw [List.getElem?_append_left (List.getElem?_eq_some_iff.1 hx).1]; exact hx
  have htT : t ∉ T := fun ht => by
    obtain ⟨i, hi⟩ := List.getElem?_of_mem ht
    have := f.path.inj (hget i t hi) (last_at T t)
    have := (List.getElem?_eq_some_iff.1 hi).1
    omega
  obtain ⟨t', l', k1, k2, k3, -⟩ := f.way Y.length a (last_at Y a)
  rw [hl] at k2
  cases k2
  have hal := (List.getElem?_eq_some_iff.1 hl).1
  -- on the stack: in this block just if it stands below
  have key : ∀ e, e < es.length → hdf es s e ∈ T ++ [t] → (Anc es s (go_ es s t) (ev es s e) ↔ hdf es s e = t) := fun e he hm => by
    have hd := hdf_of hv h he
    constructor
    · intro ha
      have h2 := hd.stays hv h e1 hh ha
      obtain ⟨i, hi⟩ := List.getElem?_of_mem hm
      have h3 := f.path.ht hv h hi
      have h4 := f.path.ht hv h (last_at T t)
      have hil := (List.getElem?_eq_some_iff.1 hi).1
      simp at hil
      by_cases e5 : go_ es s t = go_ es s (hdf es s e)
      · exact (tree_one h e1 hd.lt.2.1 e2 hd.lt.2.2.1 e5).symm
      · have := anc_height hv h.once h.hang h.side (ends_lt hv h hd.lt.2.1).2 e5 h2
        omega
    · intro e5
      have := hd.under hv h
      rwa [e5] at this
  have hdrop : ∀ e, e ∈ (S.drop a).map Prod.fst ↔ (e < es.length ∧ hdf es s e = t) := fun e => by
    constructor
    · intro hm
      obtain ⟨q, hq, rfl⟩ := List.mem_map.1 hm
      obtain ⟨p, hp⟩ := List.getElem?_of_mem hq
      rw [List.getElem?_drop] at hp
      obtain ⟨m1, m2, m3⟩ := (f.mem q.1).1 (mem_map_fst hp)
      exact ⟨m1, (key q.1 m1 m3).1 ((k3 _ q hp).1 (by omega))⟩
    · rintro ⟨he, hd⟩
      have ha := (key e he (by rw [hd]; simp)).2 hd
      have hm := (f.mem e).2 ⟨he, hall e he ha, by rw [hd]; simp⟩
      obtain ⟨q, hq, rfl⟩ := List.mem_map.1 hm
      obtain ⟨p, hp⟩ := List.getElem?_of_mem hq
      have hap := (k3 p q hp).2 ha
      refine List.mem_map.2 ⟨q, ?_, rfl⟩
      refine List.mem_of_getElem? (i := p - a) ?_
      rw [List.getElem?_drop, show a + (p - a) = p by omega]
      exact hp
  refine ⟨f.path.front, fun x hx => f.laid x (List.mem_append_left _ hx), fun e => ?_, ?_, hlen, fun i b hb => ?_, fun q hq => f.pos q (List.mem_of_mem_take hq), fun B hB => ?_, fun c c1 c2 c3 c4 => ?_, ?_⟩
  · constructor
    · intro hm
      obtain ⟨q, hq, rfl⟩ := List.mem_map.1 hm
      obtain ⟨p, hp⟩ := List.getElem?_of_mem hq
      have hpa : p < a := by have := (List.getElem?_eq_some_iff.1 hp).1; simp at this; omega
      rw [List.getElem?_take_of_lt hpa] at hp
      obtain ⟨m1, m2, m3⟩ := (f.mem q.1).1 (mem_map_fst hp)
      refine ⟨m1, m2, ?_⟩
      rcases List.mem_append.1 m3 with m3' | m3'
      · exact m3'
      · have := (k3 p q hp).2 ((key q.1 m1 m3).2 (List.mem_singleton.1 m3'))
        omega
    · rintro ⟨m1, m2, m3⟩
      have hm := (f.mem e).2 ⟨m1, m2, List.mem_append_left _ m3⟩
      obtain ⟨q, hq, rfl⟩ := List.mem_map.1 hm
      obtain ⟨p, hp⟩ := List.getElem?_of_mem hq
      have hpa : p < a := by
        by_cases hle : a ≤ p
        · have := (key q.1 m1 (List.mem_append_left _ m3)).1 ((k3 p q hp).1 hle)
          rw [this] at m3
          exact absurd m3 htT
        · omega
      refine List.mem_map.2 ⟨q, ?_, rfl⟩
      refine List.mem_of_getElem? (i := p) ?_
      rw [List.getElem?_take_of_lt hpa]
      exact hp
  · exact List.Sublist.nodup (List.Sublist.map _ (List.take_sublist a S)) f.nod
  · obtain ⟨x, l', m1, m2, m3, m4, m5, m6⟩ := f.way i b (hgetY i b hb)
    have hiY := (List.getElem?_eq_some_iff.1 hb).1
    have m1' : T[i]? = some x := by rw [List.getElem?_append_left (by omega)] at m1; exact m1
    obtain ⟨x1, x2, x3⟩ := f.path.edge _ _ m1
    have hba : b < a := by
      by_cases hle : a ≤ b
      · exfalso
        have ha := (k3 b _ m2).1 hle
        dsimp only at ha
        rw [ev_tree x2] at ha
        have h3 := f.path.ht hv h m1
        have h4 := f.path.ht hv h (last_at T t)
        by_cases e5 : go_ es s t = go_ es s x
        · rw [e5] at h4
          omega
        · have := anc_height hv h.once h.hang h.side (ends_lt hv h x1).2 e5 ha
          omega
      · omega
    refine ⟨x, l', m1', by rw [List.getElem?_take_of_lt hba]; exact m2, fun p q hq => ?_, m4, m5, fun b' hb' tb' xb' ab' nb' => ?_⟩
    · have hpa : p < a := by have := (List.getElem?_eq_some_iff.1 hq).1; simp at this; omega
      rw [List.getElem?_take_of_lt hpa] at hq
      exact m3 p q hq
    · by_cases hlast : i + 1 = T.length
      · by_cases hbt : Anc es s (go_ es s t) (fr es s b')
        · have := low_le_ht e2 hb' tb' hbt
          omega
        · refine m6 b' hb' tb' xb' ab' (fun y hy => ?_)
          rw [hlast, last_at] at hy
          cases hy
          exact hbt
      · refine m6 b' hb' tb' xb' ab' (fun y hy => nb' y ?_)
        rw [List.getElem?_append_left (by omega)] at hy
        exact hy
  · rcases List.mem_append.1 hB with hB | hB
    · obtain ⟨c, c1, c2, c3, c4, c5⟩ := f.one B hB
      exact ⟨c, c1, c2, c3, fun hc => c4 (List.mem_append_left _ hc), c5⟩
    · rw [List.mem_singleton.1 hB]
      exact ⟨t, e1, hh, f.laid t (by simp), htT, List.Sublist.nodup (List.Sublist.map _ (List.drop_sublist a S)) f.nod, hdrop⟩
  · by_cases e : c = t
    · subst e
      exact ⟨_, List.mem_append_right _ (List.mem_singleton.2 rfl), (hdrop c).2 ⟨e1, hdf_eq hv h (.self e1 hh)⟩⟩
    · obtain ⟨B, hB, hc⟩ := f.all c c1 c2 c3 (fun hc => by
        rcases List.mem_append.1 hc with hc | hc
        · exact c4 hc
        · exact e (List.mem_singleton.1 hc))
      exact ⟨B, List.mem_append_left _ hB, hc⟩
  · rw [List.pairwise_append]
    refine ⟨f.apart, List.pairwise_singleton _ _, fun B hB B' hB' e he he' => ?_⟩
    rw [List.mem_singleton.1 hB'] at he'
    obtain ⟨c, c1, c2, c3, c4, c5, c6⟩ := f.one B hB
    have h1 := ((c6 e).1 he).2
    have h2 := ((hdrop e).1 he').2
    rw [h1] at h2
    exact c4 (by rw [h2]; simp)
end
end Bl
end Go.Proofs.YtalfpbalekbinaaGreat

/-
  Lists of edges in memory that a call makes itself.
-/
namespace Go.Proofs.YtalfpbalekbinaaGreat
open Go.RowKit

theorem Tryz.infoEdge : (Tryz.prog.info? 46).map (fun i => (i.zero, i.size, i.bytes)) = some (some (.agg #[.int .i64 0, .int .i64 0]), 2, 16) := by kernel_rfl

def flatE (ps : List (Int × Int)) : List Value := ps.flatMap fun p => [.int .i64 p.1, .int .i64 p.2]

theorem flatE_snoc (ps : List (Int × Int)) (p : Int × Int) : flatE (ps ++ [p]) = flatE ps ++ [.int .i64 p.1, .int .i64 p.2] := by simp [flatE]

theorem flatE_length : ∀ ps : List (Int × Int), (flatE ps).length = ps.length * 2
  | [] => rfl
  | p :: ps => by
    have := flatE_length ps
    simp [flatE] at this ⊢
    omega

theorem flatE_at : ∀ (ps : List (Int × Int)) (j : Nat) (p : Int × Int), ps[j]? = some p → (flatE ps)[j * 2]? = some (.int .i64 p.1) ∧ (flatE ps)[j * 2 + 1]? = some (.int .i64 p.2)
  | [], j, p, h => by simp at h
  | q :: ps, 0, p, h => by
    simp at h
    subst h
    simp [flatE]
  | q :: ps, j + 1, p, h => by
    simp at h
    have := flatE_at ps j p h
    have e : (j + 1) * 2 = j * 2 + 1 + 1 := by omega
    rw [e]
    simpa [flatE] using this

theorem addrE (g j : Nat) : ((⟨g, 0, none⟩ : Addr).add j) = ⟨g, j, none⟩ := by
  by_cases h : j = 0
  · simp [Addr.add, h]
  · simp [Addr.add, h]

/-- v is a slice of the edges es, laid since block B. -/
def OwnE (w : World) (B : Nat) (v : Value) (es : List (Int × Int)) : Prop := w.ownsRow B 46 2 v es.length (flatE es)

theorem OwnE.form {w : World} {B : Nat} {v : Value} {es : List (Int × Int)} (h : OwnE w B v es) : ∃ ao cap, v = .slice ao es.length cap ∧ es.length ≤ cap ∧ cap ≤ maxLen ∧ EdgesAt w ao es ∧ (∀ x, ao = some x → B ≤ x.block ∧ x.block < w.heap.size) := by
  have h' := h
  unfold OwnE at h'
  rcases h.2 with ⟨rfl, h0⟩ | ⟨g, cap, cur, rfl, hg, hh, hc, hm, _⟩
  · refine ⟨none, 0, by rw [h0], by omega, Nat.zero_le _, fun j p hj => ?_, fun x h => by cases h⟩
    rw [List.length_eq_zero_iff.1 h0] at hj
    simp at hj
  · refine ⟨_, cap, rfl, hc, hm, fun j p hj => ⟨g, 0, rfl, ?_⟩, fun x h => by cases h; exact ⟨hg, lt_of_block hh⟩⟩
    have hcl := World.ownsRow.cells h' (g := g) rfl
    simp only [addrE] at hcl
    obtain ⟨h0, h1⟩ := flatE_at es j p hj
    rw [Nat.zero_add]
    exact ⟨hcl _ _ h0, hcl _ _ h1⟩

theorem OwnE.below {w w' : World} {B A : Nat} {v : Value} {ps : List (Int × Int)} (h : OwnE w B v ps) (hb : Below A w w') (hA : w.heap.size ≤ A) : OwnE w' B v ps := by
  refine ⟨h.1, ?_⟩
  rcases h.2 with h | ⟨g, cap, cur, e, hgB, hh, hr⟩
  · exact .inl h
  · exact .inr ⟨g, cap, cur, e, hgB, (hb.block g (by have := lt_of_block hh; omega)).trans hh, hr⟩

theorem OwnE.alloc {w : World} {B : Nat} {v : Value} {ps : List (Int × Int)} (h : OwnE w B v ps) (o : Obj) : OwnE (w.alloc o) B v ps := World.ownsRow.alloc h o

theorem OwnE.some {w : World} {B : Nat} {v : Value} {es : List (Int × Int)} (h : OwnE w B v es) (hn : v ≠ .slice none 0 0) : ∃ g cap, v = .slice (some ⟨g, 0, none⟩) es.length cap := by
  rcases h.2 with ⟨rfl, _⟩ | ⟨g, cap, cur, rfl, _⟩
  · exact absurd rfl hn
  · exact ⟨g, cap, rfl⟩

theorem OwnE.far {w : World} {B b : Nat} {v : Value} {ps : List (Int × Int)} (h : OwnE w B v ps) (hb : b < B) : v.ownBlock ≠ Option.some b := by
  obtain ⟨ao, cap, rfl, _, _, _, hx⟩ := h.form
  cases ao with
  | none => simp [Value.ownBlock]
  | some x => have := hx x rfl; simp [Value.ownBlock]; omega

/-- Stores into another block leave it; it may be said of an earlier block. -/
theorem OwnE.set2 {w : World} {B A b : Nat} {v : Value} {ps : List (Int × Int)} (h : OwnE w B v ps) (hA : A ≤ b ∧ b < B) (x y : Value) : OwnE ((w.setCell ⟨b, 0, none⟩ x).setCell ⟨b, 1, none⟩ y) A v ps := by
  refine ⟨h.1, ?_⟩
  rcases h.2 with h | ⟨g, cap, cur, e, hgB, hh, hr⟩
  · exact .inl h
  · refine .inr ⟨g, cap, cur, e, by omega, ?_, hr⟩
    rw [heap_setCell_other _ ⟨b, 1, none⟩ g y (by simp; omega), heap_setCell_other _ ⟨b, 0, none⟩ g x (by simp; omega)]
    exact hh

theorem OwnE.lower {w : World} {B A : Nat} {v : Value} {ps : List (Int × Int)} (h : OwnE w B v ps) (hA : A ≤ B) : OwnE w A v ps := by
  refine ⟨h.1, ?_⟩
  rcases h.2 with h | ⟨g, cap, cur, e, hgB, hh, hr⟩
  · exact .inl h
  · exact .inr ⟨g, cap, cur, e, by omega, hh, hr⟩

theorem OwnE.nil (w : World) (B : Nat) : OwnE w B (.slice none 0 0) [] := World.ownsRow_nil _ _ _ _

theorem new_two_e (W : World) (k : Nat) (hk : W.heap.size = k) (a b : Value) (t : TypeId) : ∀ j u, [a, b][j]? = some u → (W.alloc (.cells #[a, b] t)).cell? ((⟨k, 0, none⟩ : Addr).add j) = some u := by
  subst hk
  exact World.news_of_block (cs := #[a, b]) (t := t) (fr := (0, 0)) (heap_alloc_new W _)

end Go.Proofs.YtalfpbalekbinaaGreat

/-
  Lists of ints of one's own.
-/
namespace Go.Proofs.YtalfpbalekbinaaGreat
open Go.RowKit

/-- v is a list of the ints l, in memory of its own, laid since block B. -/
def OwnZ (w : World) (B : Nat) (v : Value) (l : List Int) : Prop := w.ownsRow B 3 1 v l.length (l.map (Value.int .i64))

section
variable {w w' : World} {B : Nat} {v : Value} {l : List Int}
theorem OwnZ.nil (w : World) (B : Nat) : OwnZ w B (.slice none 0 0) [] := World.ownsRow_nil _ _ _ _
theorem OwnZ.form (h : OwnZ w B v l) : ∃ ao cap, v = .slice ao l.length cap ∧ IntsAt w ao l ∧ (∀ x, ao = some x → B ≤ x.block ∧ x.block < w.heap.size) := by
  rcases h.2 with ⟨rfl, h0⟩ | ⟨g, cap, cur, rfl, hB, hh, _⟩
  · refine ⟨none, 0, by rw [h0], fun j x hj => ?_, fun x hx => by cases hx⟩
    have := (List.getElem?_eq_some_iff.1 hj).1
    omega
  · refine ⟨_, _, rfl, fun j x hj => ?_, fun x hx => by cases hx; exact ⟨hB, lt_of_block hh⟩⟩
    refine ⟨g, 0, rfl, ?_⟩
    have := World.ownsRow.cells h (g := g) rfl j (.int .i64 x) (by rw [List.getElem?_map, hj]; rfl)
    have e : ((⟨g, 0, none⟩ : Addr).add j) = ⟨g, 0 + j, none⟩ := by
      by_cases h0 : j = 0 <;> simp [Addr.add, h0]
    rw [e] at this
    exact this
theorem OwnZ.same (h : OwnZ w B v l) (hb : ∀ g, v.ownBlock = some g → g < w.heap.size → w'.heap[g]? = w.heap[g]?) : OwnZ w' B v l := by
  refine ⟨h.1, ?_⟩
  rcases h.2 with h | ⟨g, cap, cur, e1, hgB, hh, hr⟩
  · exact .inl h
  · exact .inr ⟨g, cap, cur, e1, hgB, (hb g (by rw [e1]; rfl) (lt_of_block hh)).trans hh, hr⟩
theorem OwnZ.later (h : OwnZ w B v l) (hb : Below w.heap.size w w') : OwnZ w' B v l := h.same fun g _ hl => hb.block g hl
theorem OwnZ.lower {B' : Nat} (h : OwnZ w B v l) (hB : B' ≤ B) : OwnZ w B' v l := by
  refine ⟨h.1, ?_⟩
  rcases h.2 with h | ⟨g, cap, cur, e1, hgB, hr⟩
  · exact .inl h
  · exact .inr ⟨g, cap, cur, e1, Nat.le_trans hB hgB, hr⟩
theorem IntsBlk.own {g n : Nat} (h : IntsBlk w g l) (hB : B ≤ g) (hl : l.length = n) (hm : n ≤ 8388608) : OwnZ w B (.slice (some ⟨g, 0, none⟩) n n) l := by
  subst hl
  refine ⟨by simp, .inr ⟨g, _, _, rfl, hB, h, Nat.le_refl _, by unfold maxLen; omega, by simp, ?_⟩⟩
  rw [List.take_of_length_le (by simp)]
end

end Go.Proofs.YtalfpbalekbinaaGreat

/-
  A list of lists of ints, each in memory of its own.
-/
namespace Go.Proofs.YtalfpbalekbinaaGreat
open Go.RowKit

theorem Tryz.infoRow : (Tryz.prog.info? 26).map (fun i => (i.zero, i.size, i.bytes)) = some (some (.slice none 0 0), 1, 24) := by kernel_rfl

theorem own_succ {W : World} {base : Nat} {e : TypeId} {size : Nat} {v : Value} {k : Nat} {xs : List Value} (h : W.ownsRow base e size v (k + 1) xs) : ∃ g cap, v = .slice (some ⟨g, 0, none⟩) (k + 1) cap := by
  rcases h.2 with ⟨_, h0⟩ | ⟨g, cap, _, rfl, _⟩
  · omega
  · exact ⟨g, cap, rfl⟩

/-- v is a list of the slices vs, in memory of its own laid since block B; each of them a list of its own, ls. -/
structure RowsZ (w : World) (B : Nat) (v : Value) (vs : List Value) (ls : List (List Int)) : Prop where
  len : vs.length = ls.length
  outer : w.ownsRow B 26 1 v ls.length vs
  row : ∀ (u : Nat) (x : Value) (l : List Int), vs[u]? = some x → ls[u]? = some l → OwnZ w B x l
  apart : ∀ (u u' : Nat) (x x' : Value) (b : Nat), u ≠ u' → vs[u]? = some x → vs[u']? = some x' → x.ownBlock = some b → x'.ownBlock ≠ some b
  far : ∀ (u : Nat) (x : Value) (b : Nat), vs[u]? = some x → x.ownBlock = some b → v.ownBlock ≠ some b

section
variable {w w' : World} {B : Nat} {v : Value} {vs : List Value} {ls : List (List Int)}
theorem RowsZ.at (h : RowsZ w B v vs ls) {u : Nat} {x : Value} (hx : vs[u]? = some x) : ∃ l, ls[u]? = some l := ⟨_, List.getElem?_eq_getElem (by rw [← h.len]; exact (List.getElem?_eq_some_iff.1 hx).1)⟩
theorem RowsZ.at' (h : RowsZ w B v vs ls) {u : Nat} {l : List Int} (hl : ls[u]? = some l) : ∃ x, vs[u]? = some x := ⟨_, List.getElem?_eq_getElem (by rw [h.len]; exact (List.getElem?_eq_some_iff.1 hl).1)⟩
theorem row_same {e : TypeId} {s n : Nat} {xs : List Value} (h : w.ownsRow B e s v n xs) (hb : ∀ g, v.ownBlock = some g → B ≤ g → g < w.heap.size → w'.heap[g]? = w.heap[g]?) : w'.ownsRow B e s v n xs := by
  refine ⟨h.1, ?_⟩
  rcases h.2 with h | ⟨g, cap, cur, e1, hgB, hh, hr⟩
  · exact .inl h
  · exact .inr ⟨g, cap, cur, e1, hgB, (hb g (by rw [e1]; rfl) hgB (lt_of_block hh)).trans hh, hr⟩
theorem RowsZ.same (h : RowsZ w B v vs ls) (hb : ∀ g, B ≤ g → g < w.heap.size → w'.heap[g]? = w.heap[g]?) : RowsZ w' B v vs ls :=
  ⟨h.len, row_same h.outer fun g _ h1 h2 => hb g h1 h2, fun u x l hx hl => row_same (h.row u x l hx hl) fun g _ h1 h2 => hb g h1 h2, h.apart, h.far⟩
theorem RowsZ.later (h : RowsZ w B v vs ls) (hb : Below w.heap.size w w') : RowsZ w' B v vs ls := h.same fun g _ hg => hb.block g hg
theorem RowsZ.nil (w : World) (B : Nat) : RowsZ w B (.slice none 0 0) [] [] := ⟨rfl, World.ownsRow_nil _ _ _ _, fun u x l hx => by simp at hx, fun u u' x x' b _ hx => by simp at hx, fun u x b hx => by simp at hx⟩

/-- What lies in the blocks of the rows that a step leaves alone. -/
theorem RowsZ.lower {B' : Nat} (h : RowsZ w B v vs ls) (hB : B' ≤ B) : RowsZ w B' v vs ls := by
  refine ⟨h.len, ⟨h.outer.1, ?_⟩, fun u x l hx hl => (h.row u x l hx hl).lower hB, h.apart, h.far⟩
  rcases h.outer.2 with h | ⟨g, cap, cur, e1, hgB, hr⟩
  · exact .inl h
  · exact .inr ⟨g, cap, cur, e1, Nat.le_trans hB hgB, hr⟩

/-- One list more at the end: x, a list l of its own that is none of those that are there. W: the world in which the row is appended to (x has been put into a cell of its own there). -/
theorem RowsZ.grow {W w1 : World} {x v' : Value} {l : List Int} (h : RowsZ W B v vs ls) (hx : OwnZ W B x l) (hx1 : ∀ (u : Nat) (y : Value) (b : Nat), vs[u]? = some y → y.ownBlock = some b → x.ownBlock ≠ some b) (hx2 : ∀ b, v.ownBlock = some b → x.ownBlock ≠ some b)
    {tmp : Obj} (hown : w1.ownsRow B 26 1 v' (ls.length + 1) (vs ++ [x])) (hgrow : (W.alloc tmp).grownBy w1 v.ownBlock) (hat : v'.ownBlock = v.ownBlock ∨ v'.ownBlock = some (W.heap.size + 1)) :
    RowsZ w1 B v' (vs ++ [x]) (ls ++ [l]) := by
  have hsame : ∀ g, v.ownBlock ≠ some g → g < W.heap.size → w1.heap[g]? = W.heap[g]? := fun g hne hg => by
    rw [hgrow.block g (by rw [World.size_alloc]; omega) (fun e => hne e.symm)]
    exact Below.heap_alloc W tmp g hg
  have hold : ∀ u y k, vs[u]? = some y → ls[u]? = some k → OwnZ w1 B y k := fun u y k hy hk => (h.row u y k hy hk).same fun g hg hl => hsame g (h.far u y g hy hg) hl
  have hxx : OwnZ w1 B x l := hx.same fun g hg hl => hsame g (fun e => hx2 g e hg) hl
  have hlt : ∀ y k b, OwnZ W B y k → y.ownBlock = some b → b < W.heap.size := fun y k b ho hb => (World.ownsRow.lt ho b hb).2
  have hlast : ∀ u y, (vs ++ [x])[u]? = some y → (u < vs.length ∧ vs[u]? = some y) ∨ (u = vs.length ∧ y = x) := fun u y hy => by
    by_cases hu : u < vs.length
    · rw [List.getElem?_append_left hu] at hy
      exact .inl ⟨hu, hy⟩
    · rw [List.getElem?_append_right (by omega)] at hy
      have hl := (List.getElem?_eq_some_iff.1 hy).1
      have e : u - vs.length = 0 := by simp at hl; omega
      rw [e] at hy
      exact .inr ⟨by omega, (Option.some.inj hy).symm⟩
  refine ⟨by simp [h.len], by rw [List.length_append]; exact hown, fun u y k hy hk => ?_, fun u u' y y' b hne hy hy' hb => ?_, fun u y b hy hb => ?_⟩
  · rcases hlast u y hy with ⟨hu, h1⟩ | ⟨hu, rfl⟩
    · rw [List.getElem?_append_left (by rw [← h.len]; exact hu)] at hk
      exact hold u y k h1 hk
    · rw [hu, h.len, List.getElem?_append_right (Nat.le_refl _), Nat.sub_self] at hk
      obtain rfl := Option.some.inj hk
      exact hxx
  · rcases hlast u y hy with ⟨hu, h1⟩ | ⟨hu, rfl⟩ <;> rcases hlast u' y' hy' with ⟨hu', h2⟩ | ⟨hu', rfl⟩
    · exact h.apart u u' y y' b hne h1 h2 hb
    · exact hx1 u y b h1 hb
    · intro hc
      exact hx1 u' y' b h2 hc hb
    · omega
  · intro hc
    rcases hat with e | e
    · rw [e] at hc
      rcases hlast u y hy with ⟨hu, h1⟩ | ⟨hu, rfl⟩
      · exact h.far u y b h1 hb hc
      · exact hx2 b hc hb
    · rw [e] at hc
      have hbs := Option.some.inj hc
      rcases hlast u y hy with ⟨hu, h1⟩ | ⟨hu, rfl⟩
      · obtain ⟨k, hk⟩ := h.at h1
        have := hlt y k b (h.row u y k h1 hk) hb
        omega
      · have := hlt y l b hx hb
        omega

/-- List u is appended to. -/
theorem RowsZ.put {W w1 : World} {u g c : Nat} {x x' : Value} {l l' : List Int} (h : RowsZ W B (.slice (some ⟨g, 0, none⟩) ls.length c) vs ls) (hx : vs[u]? = some x) (hl : ls[u]? = some l)
    {tmp : Obj} (hown : OwnZ w1 B x' l') (hgrow : (W.alloc tmp).grownBy w1 x.ownBlock) (hat : x'.ownBlock = x.ownBlock ∨ x'.ownBlock = some (W.heap.size + 1)) :
    w1.cell? ⟨g, u, none⟩ = some x ∧ w1.frozen? ⟨g, u, none⟩ = false ∧ RowsZ (w1.setCell ⟨g, u, none⟩ x') B (.slice (some ⟨g, 0, none⟩) ls.length c) (vs.set u x') (ls.set u l') ∧ Below B W (w1.setCell ⟨g, u, none⟩ x') := by
  have hul := (List.getElem?_eq_some_iff.1 hx).1
  have hfx : x.ownBlock ≠ some g := fun e => h.far u x g hx e rfl
  obtain ⟨hgB, hgl⟩ := World.ownsRow.lt h.outer g rfl
  have hsz : W.heap.size ≤ w1.heap.size := by
    have := hgrow.size
    rw [World.size_alloc] at this
    omega
  have hsame : ∀ b, x.ownBlock ≠ some b → b < W.heap.size → w1.heap[b]? = W.heap[b]? := fun b hne hb => by
    rw [hgrow.block b (by rw [World.size_alloc]; omega) (fun e => hne e.symm)]
    exact Below.heap_alloc W tmp b hb
  have ho1 : w1.ownsRow B 26 1 (.slice (some ⟨g, 0, none⟩) ls.length c) ls.length vs := row_same h.outer fun b hb _ hl => by
    obtain rfl : g = b := by simpa [Value.ownBlock] using hb
    exact hsame g hfx hl
  have hst := ho1.stored u x'
  have hc := World.ownsRow.cells ho1 (g := g) rfl u x hx
  have ea : ((⟨g, 0, none⟩ : Addr).add u) = ⟨g, u, none⟩ := by
    by_cases h0 : u = 0 <;> simp [Addr.add, h0]
  rw [ea] at hc
  have hng : x'.ownBlock ≠ some g := by
    rcases hat with e | e
    · rw [e]; exact hfx
    · rw [e]
      intro e2
      have := Option.some.inj e2
      omega
  have hset : ∀ b, b ≠ g → (w1.setCell ⟨g, u, none⟩ x').heap[b]? = w1.heap[b]? := fun b hb => heap_setCell_other w1 ⟨g, u, none⟩ b x' hb
  have hxB : ∀ b, x.ownBlock = some b → B ≤ b := fun b hb => (World.ownsRow.lt (h.row u x l hx hl) b hb).1
  refine ⟨hc, ho1.frozenAt u, ⟨by simp [h.len], by rw [List.length_set]; exact hst.1, fun a y k ha hk => ?_, fun a a' y y' b hne ha ha' hb => ?_, fun a y b ha hb => ?_⟩, ?_⟩
  · rw [List.getElem?_set] at ha hk
    by_cases e : u = a
    · subst e
      rw [if_pos rfl, if_pos hul] at ha
      rw [if_pos rfl, if_pos (by rw [← h.len]; exact hul)] at hk
      cases ha
      cases hk
      exact hown.same fun b hb _ => hset b (fun e => hng (by rw [hb, e]))
    · rw [if_neg e] at ha hk
      refine (h.row a y k ha hk).same fun b hb hl => ?_
      rw [hset b (fun e => h.far a y b ha hb (by rw [e]; rfl)), hsame b (fun e2 => h.apart u a x y b e hx ha e2 hb) hl]
  · rw [List.getElem?_set] at ha ha'
    have hnew : ∀ (z : Nat) (q : Value) (b : Nat), u ≠ z → vs[z]? = some q → x'.ownBlock = some b → q.ownBlock ≠ some b := fun z q b hz hq hb => by
      rcases hat with e2 | e2
      · rw [e2] at hb
        exact h.apart u z x q b hz hx hq hb
      · rw [e2] at hb
        have hbs := Option.some.inj hb
        intro hc
        obtain ⟨k, hk⟩ := h.at hq
        have := (World.ownsRow.lt (h.row z q k hq hk) b hc).2
        omega
    by_cases e : u = a
    · subst e
      rw [if_pos rfl, if_pos hul] at ha
      cases ha
      rw [if_neg hne] at ha'
      exact hnew a' y' b hne ha' hb
    · rw [if_neg e] at ha
      by_cases e' : u = a'
      · subst e'
        rw [if_pos rfl, if_pos hul] at ha'
        cases ha'
        intro hc
        exact hnew a y b (Ne.symm hne) ha hc hb
      · rw [if_neg e'] at ha'
        exact h.apart a a' y y' b hne ha ha' hb
  · rw [List.getElem?_set] at ha
    by_cases e : u = a
    · subst e
      rw [if_pos rfl, if_pos hul] at ha
      cases ha
      intro hc
      obtain rfl : g = b := by simpa [Value.ownBlock] using hc
      exact hng hb
    · rw [if_neg e] at ha
      exact h.far a y b ha hb
  · refine ⟨hgrow.os, hgrow.tape, hgrow.output, by simpa using hsz, fun k hk => ?_⟩
    rw [hset k (by omega), hsame k (fun e => by have := hxB k e; omega) (by omega)]
end

end Go.Proofs.YtalfpbalekbinaaGreat
