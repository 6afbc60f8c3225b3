/-
  Faces, pure: turned lists have the same faces; the mirror image has as many faces of each length.
-/
import Derived.Test.YtfkmldopfhdbkaaFaY
import Derived.Test.YtfkmldopfhdbkaaRoQ
namespace Go.Proofs.Ytfkmldopfhdbkaa
namespace Fa
open Pl Co

section
variable {N : Nat} {es : List (Int × Int)} {ls : List (List Int)}

theorem fr_all (h : Ro.Rot N es ls) : ∀ j, j < 2 * es.length → (Cs.fr es j : Int) < (N : Int) := fun j hj => by
  have := fr_in (val_of h) hj
  omega

/-- Where lists begin does not matter. -/
theorem next_canon (h : Ro.Rot N es ls) : Ro.nextL es (ls.map Ro.canon1) = Ro.nextL es ls := by
  refine List.ext_getElem? fun j => ?_
  by_cases hj : j < 2 * es.length
  · obtain ⟨l, i, hl, hi, -⟩ := h.place hj (fr_all h j hj)
    have hil := Ro.lt_at hi
    have a2 := Ro.at_getD (l := l) (i := (i + 1) % l.length) (Nat.mod_lt _ (by omega))
    have hs : Ro.Suc l (j : Int) (l.getD ((i + 1) % l.length) 0) := ⟨i, hi, a2⟩
    have h1 := h.suc hl hs
    have h2 := h.canon.suc (v := Cs.fr es j) (by rw [List.getElem?_map, hl]; rfl) (Ro.suc_tn (Ro.tn_canon l) hs)
    simp only [Int.toNat_natCast] at h1 h2
    rw [h1, h2]
  · rw [List.getElem?_eq_none (by rw [Ro.nextL_len]; omega), List.getElem?_eq_none (by rw [Ro.nextL_len]; omega)]
theorem all_canon (h : Ro.Rot N es ls) : all es (ls.map Ro.canon1) = all es ls := by
  have e : ph es (ls.map Ro.canon1) = ph es ls := by
    unfold ph sg
    rw [next_canon h]
  unfold all
  rw [e]

/-- Of the mirror the next one leads back. -/
theorem sg_back (h : Ro.Rot N es ls) {j : Nat} (hj : j < 2 * es.length) : sg es (ls.map fun l => Ro.canon1 l.reverse) (sg es ls j) = j := by
  obtain ⟨t, ht, -, hb⟩ := h.back hj (fr_all h j hj)
  have e1 : sg es ls j = t := by
    unfold sg
    rw [List.getD_eq_getElem?_getD, ht]
    rfl
  rw [e1]
  unfold sg
  rw [List.getD_eq_getElem?_getD, hb]
  rfl
theorem sg_forth (h : Ro.Rot N es ls) {j : Nat} (hj : j < 2 * es.length) : sg es ls (sg es (ls.map fun l => Ro.canon1 l.reverse) j) = j := by
  have hp := sg_per h.mirror
  have h1 := (sg_per h).lt _ (hp.lt j hj)
  exact hp.inj _ _ h1 hj (sg_back h (hp.lt j hj))
end

/-- f and f' go the same faces, one the other way round, by the twins. -/
structure Opp (n : Nat) (f f' : Nat → Nat) : Prop where
  p : Per n f
  p' : Per n f'
  even : n % 2 = 0
  one : ∀ y, y < n → f' (Cs.twin (f y)) = Cs.twin y
  two : ∀ y, y < n → f (Cs.twin (f' y)) = Cs.twin y

theorem Opp.symm {n : Nat} {f f' : Nat → Nat} (h : Opp n f f') : Opp n f' f := ⟨h.p', h.p, h.even, h.two, h.one⟩
theorem tw_lt {n x : Nat} (h : n % 2 = 0) (hx : x < n) : Cs.twin x < n := by
  have := Cs.twin_lt (i := x) (m := n / 2) (by omega)
  omega

theorem opp_mirror {N : Nat} {es : List (Int × Int)} {ls : List (List Int)} (h : Ro.Rot N es ls) : Opp (2 * es.length) (ph es ls) (ph es (ls.map fun l => Ro.canon1 l.reverse)) := by
  refine ⟨ph_per h, ph_per h.mirror, by omega, fun y hy => ?_, fun y hy => ?_⟩
  · have h1 := (ph_per h).lt y hy
    have h2 := tw_lt (n := 2 * es.length) (by omega) h1
    rw [ph_at h2, twin_twin, ph_at hy, sg_back h (Cs.twin_lt hy)]
  · have h1 := (ph_per h.mirror).lt y hy
    have h2 := tw_lt (n := 2 * es.length) (by omega) h1
    rw [ph_at h2, twin_twin, ph_at hy, sg_forth h (Cs.twin_lt hy)]

section
variable {n : Nat} {f f' m m' : Nat → Nat}

theorem Opp.it (h : Opp n f f') {x : Nat} (hx : x < n) : ∀ k, Pl.it f' k (Cs.twin (Pl.it f k x)) = Cs.twin x
  | 0 => rfl
  | k + 1 => by
    rw [it_succ f k x]
    show Pl.it f' k (f' (Cs.twin (f (Pl.it f k x)))) = Cs.twin x
    rw [h.one _ (it_lt h.p.lt k hx)]
    exact Opp.it h hx k
theorem tw_inj {x y : Nat} (h : Cs.twin x = Cs.twin y) : x = y := by
  have := congrArg Cs.twin h
  rwa [twin_twin, twin_twin] at this
theorem Opp.isLen (h : Opp n f f') {x p : Nat} (hx : x < n) (hl : IsLen f n x p) : IsLen f' n (Cs.twin x) p := by
  refine ⟨hl.pos, hl.le, ?_, fun i hi hip hc => hl.first i hi hip ?_⟩
  · have := h.it hx p
    rwa [hl.back] at this
  · have h1 := h.it hx i
    rw [← hc] at h1
    exact tw_inj (it_inj h.p'.lt h.p'.inj i (tw_lt h.even (it_lt h.p.lt i hx)) (tw_lt h.even hx) h1)

/-- How long the face of x is. -/
def ln (f : Nat → Nat) (n x : Nat) : Nat := (face f n x).length
theorem ln_eq {x p : Nat} (hl : IsLen f n x p) : ln f n x = p := by
  unfold ln
  rw [face_way hl, way_len]
theorem Opp.ln (h : Opp n f f') {x : Nat} (hx : x < n) : ln f' n (Cs.twin x) = ln f n x := by
  obtain ⟨p, hp⟩ := len_ex h.p hx
  rw [ln_eq hp, ln_eq (h.isLen hx hp)]
/-- It is the same for all of a face. -/
theorem ln_same (hp : Per n f) (ho : Orb n f m) {x y : Nat} (hx : x < n) (hy : y < n) (e : m x = m y) : ln f n x = ln f n y := by
  obtain ⟨p, hl⟩ := len_ex hp hx
  obtain ⟨q, hl'⟩ := len_ex hp hy
  have h1 := face_cnt hp ho hx hl
  have h2 := face_cnt hp ho hy hl'
  rw [e] at h1
  rw [ln_eq hl, ln_eq hl']
  omega

/-- How many half-edges are in faces of length L: L for each such face. -/
theorem cnt_len (hp : Per n f) (ho : Orb n f m) (L : Nat) : (cntTo (fun x => decide (ln f n x = L)) n : Int) = (L : Int) * (cntTo (fun x => fix m x && decide (ln f n x = L)) n : Int) := by
  have h1 := sumZ_fib ho.norm (p := fun x => decide (ln f n x = L)) (g := fun x => x) n (fun x hx _ => hx)
  rw [← h1, ← sumZ_cnt, ← sumZ_mul]
  refine sumZ_congr n fun r hr => ?_
  by_cases hf : fix m r = true
  · have hmr : m r = r := by unfold fix at hf; exact of_decide_eq_true hf
    obtain ⟨p, hl⟩ := len_ex hp hr
    rw [if_pos hf, hf]
    by_cases e : ln f n r = L
    · have h2 : cntTo (fun x => decide (ln f n x = L) && decide (m x = r)) n = cntTo (fun x => decide (m x = m r)) n := cntTo_congr n fun x hx => by
        rw [hmr]
        by_cases ex : m x = r
        · have := ln_same hp ho hx hr (by rw [ex, hmr])
          simp [ex, this, e]
        · simp [ex]
      rw [h2, face_cnt hp ho hr hl]
      have : p = L := by rw [← ln_eq hl, e]
      simp [e, this]
    · have h2 : cntTo (fun x => decide (ln f n x = L) && decide (m x = r)) n = 0 := by
        rw [cntTo_congr (q := fun e => decide (e = n)) n (fun x hx => by
          have h3 : ¬ x = n := by omega
          by_cases ex : m x = r
          · have h4 := ln_same hp ho hx hr (by rw [ex, hmr])
            have h5 : ¬ ln f n x = L := by rw [h4]; exact e
            simp [h5, h3]
          · simp [ex, h3]), cntTo_one, if_neg (by omega)]
      rw [h2]
      simp [e]
  · rw [if_neg hf]
    simp [hf]
theorem Opp.cnt (h : Opp n f f') (L : Nat) : cntTo (fun x => decide (Fa.ln f n x = L)) n = cntTo (fun x => decide (Fa.ln f' n x = L)) n := by
  have key : ∀ {f f' : Nat → Nat}, Opp n f f' → cntTo (fun x => decide (Fa.ln f n x = L)) n ≤ cntTo (fun x => decide (Fa.ln f' n x = L)) n := fun {f f'} h => by
    refine cntTo_inj (f := Cs.twin) (fun a ha hpa => ?_) (fun a b _ _ _ _ e => tw_inj e)
    rw [decide_eq_true_iff] at hpa ⊢
    exact ⟨tw_lt h.even ha, by rw [h.ln ha]; exact hpa⟩
  exact Nat.le_antisymm (key h) (key h.symm)
/-- As many faces of each length. -/
theorem Opp.faces (h : Opp n f f') (ho : Orb n f m) (ho' : Orb n f' m') (L : Nat) : cntTo (fun x => fix m x && decide (Fa.ln f n x = L)) n = cntTo (fun x => fix m' x && decide (Fa.ln f' n x = L)) n := by
  by_cases hL : L = 0
  · have key : ∀ {f m : Nat → Nat}, Per n f → cntTo (fun x => fix m x && decide (Fa.ln f n x = L)) n = 0 := fun {f m} hp => by
      rw [cntTo_congr (q := fun e => decide (e = n)) n (fun x hx => by
        obtain ⟨p, hl⟩ := len_ex hp hx
        have h1 := hl.pos
        have h2 : ¬ Fa.ln f n x = L := by rw [ln_eq hl]; omega
        have h3 : ¬ x = n := by omega
        simp [h2, h3]), cntTo_one, if_neg (by omega)]
    rw [key h.p, key h.p']
  · have h1 := cnt_len h.p ho L
    have h2 := cnt_len h.p' ho' L
    rw [h.cnt L, h2] at h1
    have := Int.eq_of_mul_eq_mul_left (by omega) h1
    omega
/-- As many faces. -/
theorem Opp.count (h : Opp n f f') (ho : Orb n f m) (ho' : Orb n f' m') : Co.cnt n m = Co.cnt n m' := by
  have key : ∀ {f f' m m' : Nat → Nat}, Opp n f f' → Orb n f m → Orb n f' m' → Co.cnt n m ≤ Co.cnt n m' := fun {f f' m m'} h ho ho' => by
    refine cntTo_inj (f := fun r => m' (Cs.twin r)) (fun a ha _ => ?_) (fun a b ha hb hpa hpb e => ?_)
    · have := tw_lt h.even ha
      exact ⟨ho'.norm.lt this, by simpa using ho'.norm.idem _ this⟩
    · simp only [decide_eq_true_eq] at hpa hpb
      have ta := tw_lt h.even ha
      have tb := tw_lt h.even hb
      obtain ⟨k, hk⟩ := (ho'.iff _ _ ta tb).1 e
      have h1 := h.it hb k
      rw [← hk] at h1
      have h2 := tw_inj (it_inj h.p'.lt h.p'.inj k (tw_lt h.even (it_lt h.p.lt k hb)) ta h1)
      have h3 := (ho.iff b a hb ha).2 ⟨k, h2⟩
      omega
  exact Nat.le_antisymm (key h ho ho') (key h.symm ho' ho)
end

/-- How many of the first k lists have length L. -/
def cL (F : List (List Int)) (L k : Nat) : Nat := cntTo (fun j => decide ((F.getD j []).length = L)) k

section
variable {N : Nat} {es : List (Int × Int)} {ls : List (List Int)}
theorem cL_faces {f m : Nat → Nat} {n : Nat} (hp : Per n f) (ho : Orb n f m) (L : Nat) : cL (facesZ f n) L (facesZ f n).length = cntTo (fun x => fix m x && decide (ln f n x = L)) n := by
  have e := facesTo_eq hp ho n (Nat.le_refl _)
  have e1 := cntTo_list (fun x => decide (ln f n x = L)) ((List.range n).filter (fix m))
  have e2 : cntTo (fun x => fix m x && decide (ln f n x = L)) n = (((List.range n).filter (fix m)).filter (fun x => decide (ln f n x = L))).length := by
    rw [cntTo_filter, List.filter_filter]
    congr 1
    refine List.filter_congr fun x _ => ?_
    exact Bool.and_comm _ _
  rw [e2, ← e1]
  unfold cL facesZ
  rw [e, List.length_map, List.length_map]
  refine cntTo_congr _ fun i hi => ?_
  have e3 : (((((List.range n).filter (fix m)).map (face f n)).map zl).getD i []).length = ln f n (((List.range n).filter (fix m)).getD i 0) := by
    rw [List.getD_eq_getElem?_getD, List.getD_eq_getElem?_getD, List.getElem?_map, List.getElem?_map, List.getElem?_eq_getElem hi]
    show (zl (face f n _)).length = _
    rw [zl_len]
    rfl
  rw [e3]
theorem mirror_same (h : Ro.Rot N es ls) : (all es (ls.map fun l => Ro.canon1 l.reverse)).length = (all es ls).length ∧ ∀ L, cL (all es (ls.map fun l => Ro.canon1 l.reverse)) L (all es (ls.map fun l => Ro.canon1 l.reverse)).length = cL (all es ls) L (all es ls).length := by
  obtain ⟨m, hm⟩ := orb_ex (ph_per h)
  obtain ⟨m', hm'⟩ := orb_ex (ph_per h.mirror)
  have ho := opp_mirror h
  refine ⟨?_, fun L => ?_⟩
  · unfold all
    rw [facesZ_len (ph_per h) hm, facesZ_len (ph_per h.mirror) hm', ho.count hm hm']
  · unfold all
    rw [cL_faces (ph_per h) hm, cL_faces (ph_per h.mirror) hm', ho.faces hm hm' L]
theorem gz_mirror (h : Ro.Rot N es ls) : gz N es (ls.map fun l => Ro.canon1 l.reverse) = gz N es ls := by
  unfold gz
  rw [(mirror_same h).1]
end
end Fa
end Go.Proofs.Ytfkmldopfhdbkaa
