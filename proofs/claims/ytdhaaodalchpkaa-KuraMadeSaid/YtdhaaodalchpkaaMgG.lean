import Derived.Test.YtdhaaodalchpkaaMgE
import Derived.Test.YtdhaaodalchpkaaKuR
import Derived.Test.YtdhaaodalchpkaaMgF
/-
  Layer 15, pure: the document's Recognise and the program's are one answer.
-/
namespace Go.Proofs.Ytdhaaodalchpkaa
open Go.RowKit Go.Sort Go.Maps

namespace Ku
/-- How many of the first k chains have these ends. -/
def cT (R : List (List Int)) (p : Int × Int) : Nat → Nat
  | 0 => 0
  | k + 1 => cT R p k + (if ends (R.getD k []) = p then 1 else 0)
theorem opn_succ (R : List (List Int)) (k : Nat) (p : Int × Int) (hp : p.1 ≠ p.2) : opn R (k + 1) p = if ends (R.getD k []) = p then some k else opn R k p := by
  simp only [opn]
  by_cases h : (ends (R.getD k [])).1 ≠ (ends (R.getD k [])).2
  · rw [if_pos h]
    unfold upO
    by_cases e : p = ends (R.getD k [])
    · rw [if_pos e, if_pos e.symm]
    · rw [if_neg e, if_neg fun h => e h.symm]
  · rw [if_neg h, if_neg]
    intro e
    rw [e] at h
    exact h hp
theorem cT_opn {R : List (List Int)} {p : Int × Int} (hp : p.1 ≠ p.2) : ∀ {k : Nat}, cT R p k = 0 ↔ opn R k p = none
  | 0 => by simp [cT, opn]
  | k + 1 => by
    rw [opn_succ R k p hp]
    simp only [cT]
    by_cases e : ends (R.getD k []) = p
    · rw [if_pos e, if_pos e]
      simp
    · rw [if_neg e, if_neg e, Nat.add_zero]
      exact cT_opn hp
theorem hit_eq {l : List Int} (hup : (ends l).1 ≤ (ends l).2) {x y : Int} (hxy : x ≠ y) : hit l x y = if ends l = key (x, y) then some (fromL x l) else none := by
  unfold ends at hup ⊢
  unfold hit key fromL
  dsimp only at hup ⊢
  generalize gI l 0 = a at *
  generalize gI l (l.length - 1) = b at *
  by_cases h1 : a = x ∧ b = y
  · obtain ⟨rfl, rfl⟩ := h1
    have h2 : ¬ b < a := by omega
    simp [h2]
  · rw [if_neg h1]
    by_cases h2 : a = y ∧ b = x
    · obtain ⟨rfl, rfl⟩ := h2
      have h3 : a < b := by omega
      have h4 : ¬ a = b := by omega
      simp [h3, h4]
    · rw [if_neg h2]
      have h3 : ¬ (a, b) = (if y < x then (y, x) else (x, y)) := by
        split
        · intro e
          exact h2 ⟨congrArg Prod.fst e, congrArg Prod.snd e⟩
        · intro e
          exact h1 ⟨congrArg Prod.fst e, congrArg Prod.snd e⟩
      rw [if_neg h3]
theorem key_ne2 {x y : Int} (h : x ≠ y) : (key (x, y)).1 ≠ (key (x, y)).2 := by
  unfold key
  dsimp only
  split
  · exact fun e => h e.symm
  · exact h
theorem betw_eq {R : List (List Int)} (hup : ∀ l ∈ R, (ends l).1 ≤ (ends l).2) {x y : Int} (hxy : x ≠ y) : ∀ {k : Nat}, k ≤ R.length → betw R x y k = (match opn R k (key (x, y)) with | some i => fromL x (R.getD i []) | none => [], cT R (key (x, y)) k)
  | 0, _ => rfl
  | k + 1, hk => by
    obtain ⟨l, hl⟩ : ∃ l, R[k]? = some l := ⟨_, List.getElem?_eq_getElem (by omega)⟩
    have e : R.getD k [] = l := by rw [List.getD_eq_getElem?_getD, hl]; rfl
    have hh := hit_eq (hup l (List.mem_of_getElem? hl)) hxy
    rw [opn_succ R k _ (key_ne2 hxy)]
    simp only [cT]
    rw [e]
    by_cases hc : ends l = key (x, y)
    · rw [if_pos hc] at hh
      rw [betw_some hl hh, if_pos hc, if_pos hc, betw_eq hup hxy (by omega)]
      dsimp only
      rw [e]
    · rw [if_neg hc] at hh
      rw [betw_none hl hh, if_neg hc, if_neg hc, betw_eq hup hxy (by omega)]
      rfl
theorem one_at_most (E : Int × Int) : ∀ {ps : List (Int × Int)}, ps.Pairwise (fun p q => key p ≠ key q) → (ps.map fun p => if E = key p then 1 else 0).sum ≤ 1
  | [], _ => by simp
  | p :: ps, h => by
    have h' := List.pairwise_cons.1 h
    rw [List.map_cons, List.sum_cons]
    by_cases e : E = key p
    · rw [if_pos e]
      have : (ps.map fun p => if E = key p then 1 else 0).sum = 0 := by
        have hz : ∀ q ∈ ps, (if E = key q then 1 else 0) = 0 := fun q hq => if_neg fun e2 => h'.1 q hq (e ▸ e2)
        clear h h'
        induction ps with
        | nil => rfl
        | cons q ps ih =>
          rw [List.map_cons, List.sum_cons, hz q (by simp), ih fun r hr => hz r (by simp [hr])]
      omega
    · rw [if_neg e]
      have := one_at_most E h'.2
      omega
theorem sum_cT {R : List (List Int)} {ps : List (Int × Int)} (h : ps.Pairwise fun p q => key p ≠ key q) : ∀ k, (ps.map fun p => cT R (key p) k).sum ≤ k
  | 0 => by
    clear h
    induction ps with
    | nil => simp
    | cons p ps ih => rw [List.map_cons, List.sum_cons]; simp only [cT]; simp only [cT] at ih; omega
  | k + 1 => by
    have h1 := sum_cT (R := R) h k
    have h2 := one_at_most (ends (R.getD k [])) h
    have : (ps.map fun p => cT R (key p) (k + 1)).sum = (ps.map fun p => cT R (key p) k).sum + (ps.map fun p => if ends (R.getD k []) = key p then 1 else 0).sum := by
      clear h h1 h2
      induction ps with
      | nil => rfl
      | cons p ps ih =>
        simp only [List.map_cons, List.sum_cons]
        rw [ih]
        simp only [cT]
        omega
    omega
theorem len_sum : ∀ {l : List Nat}, (∀ x ∈ l, 1 ≤ x) → l.length ≤ l.sum
  | [], _ => by simp
  | x :: l, h => by
    have h1 := h x (by simp)
    have h2 := len_sum fun y hy => h y (List.mem_cons_of_mem x hy)
    rw [List.length_cons, List.sum_cons]
    omega
theorem all_one : ∀ {l : List Nat}, (∀ x ∈ l, 1 ≤ x) → l.sum ≤ l.length → ∀ x ∈ l, x = 1
  | [], _, _, x, hx => by simp at hx
  | y :: l, h, hs, x, hx => by
    have h1 := h y (by simp)
    have h' : ∀ x ∈ l, 1 ≤ x := fun z hz => h z (List.mem_cons_of_mem y hz)
    have h2 := len_sum h'
    rw [List.length_cons, List.sum_cons] at hs
    rcases List.mem_cons.1 hx with rfl | hx
    · omega
    · exact all_one h' (by omega) x hx
theorem idx_iff {R : List (List Int)} {p : Int × Int} (hp : p.1 ≠ p.2) : (∃ i, idx R p = some i) ↔ 1 ≤ cT R (key p) R.length := by
  have h := cT_opn (R := R) (p := key p) (key_ne2 (x := p.1) (y := p.2) hp) (k := R.length)
  unfold idx
  cases ho : opn R R.length (key p) with
  | none =>
    rw [ho] at h
    have := h.2 rfl
    rw [this]
    simp
  | some i =>
    rw [ho] at h
    have : cT R (key p) R.length ≠ 0 := fun e => by cases h.1 e
    constructor
    · intro _; omega
    · intro _; exact ⟨i, rfl⟩
theorem all_iff {R : List (List Int)} {ps : List (Int × Int)} (hlen : R.length = ps.length) (hpw : ps.Pairwise fun p q => key p ≠ key q) (hne : ∀ p ∈ ps, p.1 ≠ p.2) : All R ps ↔ ∀ p ∈ ps, cT R (key p) R.length = 1 := by
  constructor
  · rintro ⟨-, h⟩ p hp
    have hs := sum_cT (R := R) hpw R.length
    refine all_one (l := ps.map fun p => cT R (key p) R.length) (fun x hx => ?_) (by rw [List.length_map]; omega) _ (List.mem_map_of_mem hp)
    obtain ⟨q, hq, rfl⟩ := List.mem_map.1 hx
    exact (idx_iff (hne q hq)).1 (h q hq)
  · intro h
    refine ⟨hlen, fun p hp => (idx_iff (hne p hp)).2 (by rw [h p hp]; exact Nat.le_refl _)⟩

/-- Betw of a pair. -/
theorem way_path {R : List (List Int)} (hup : ∀ l ∈ R, (ends l).1 ≤ (ends l).2) {x y : Int} (hxy : x ≠ y) (h1 : cT R (key (x, y)) R.length = 1) : (betw R x y R.length).1 = pathOf R (x, y) := by
  rw [betw_eq hup hxy (Nat.le_refl _)]
  unfold pathOf idx
  cases ho : opn R R.length (key (x, y)) with
  | none =>
    have := (cT_opn (R := R) (p := key (x, y)) (key_ne2 hxy)).2 ho
    omega
  | some i => rfl

theorem apart_pw {ps : List (Int × Int)} (h : KeysApart ps) : ps.Pairwise fun p q => key p ≠ key q := by
  rw [List.pairwise_iff_getElem]
  intro i j hi hj hij
  exact h i j _ _ (by omega) (List.getElem?_eq_getElem hi) (List.getElem?_eq_getElem hj)

/-- The document's answer of a kind: each pair of branch vertices has one chain. -/
theorem found_iff {R : List (List Int)} (hup : ∀ l ∈ R, (ends l).1 ≤ (ends l).2) {br : List Int} {qs : List (Nat × Nat)} {ps : List (Int × Int)} (hps : ps = qs.map fun q => (gI br q.1, gI br q.2)) (hlen : R.length = ps.length) (hpw : ps.Pairwise fun p q => key p ≠ key q) (hne : ∀ p ∈ ps, p.1 ≠ p.2) :
    ((∀ q ∈ qs, (way R br q).2 = 1) ↔ All R ps) ∧ (All R ps → (qs.map fun q => (way R br q).1) = ps.map (pathOf R)) := by
  have hq : ∀ q ∈ qs, (gI br q.1, gI br q.2) ∈ ps := fun q hq => by rw [hps]; exact List.mem_map_of_mem (f := fun q => (gI br q.1, gI br q.2)) hq
  have hw : ∀ q ∈ qs, (way R br q).2 = cT R (key (gI br q.1, gI br q.2)) R.length := fun q h => by
    unfold way
    rw [betw_eq hup (hne _ (hq q h)) (Nat.le_refl _)]
  rw [all_iff hlen hpw hne]
  refine ⟨⟨fun h p hp => ?_, fun h q h' => ?_⟩, fun h => ?_⟩
  · rw [hps] at hp
    obtain ⟨q, h', rfl⟩ := List.mem_map.1 hp
    rw [← hw q h']
    exact h q h'
  · rw [hw q h']
    exact h _ (hq q h')
  · rw [hps, List.map_map]
    refine List.map_congr_left fun q h' => ?_
    exact way_path hup (hne _ (hq q h')) (h _ (hq q h'))

/-- Of rows. -/
theorem rows_up {n : Int} {es : List (Int × Int)} (hv : Si.Val n es) : ∀ l ∈ rows es hv es.length, (ends l).1 ≤ (ends l).2 := by
  intro l hl
  obtain ⟨t, ht⟩ := List.getElem?_of_mem hl
  obtain ⟨c, hc, rfl⟩ := rows_at ht
  have hcn := chs_cn (Nat.le_refl _) (List.mem_of_getElem? hc)
  have hlen := vs_length (S := gs es hv) hcn.ne
  have hp := pos_of hcn.ne
  have hg : ∀ i, i < (vs (gs es hv) c).length → gI (ZL (vs (gs es hv) c)) i = (at_ (vs (gs es hv) c) i : Int) := fun i hi => by
    refine gI_at ?_
    unfold ZL
    rw [List.getElem?_map, at_get hi]
    rfl
  have := hcn.up
  unfold Up at this
  unfold ends
  dsimp only
  rw [ZL_length, hg 0 (by omega), hg _ (by omega)]
  omega

theorem gI_degs {m : Nat} {es : List (Int × Int)} (hv : Si.Val (m : Int) es) {v : Nat} (h : v < m) : gI (Si.degs (m : Int) es) v = (dg es v : Int) := by
  have := Cs.degs_out hv es.length (Nat.le_refl _) v h
  rw [List.take_length] at this
  exact gI_at this
theorem of_brs {m : Nat} {es : List (Int × Int)} (hv : Si.Val (m : Int) es) {d : Nat} (h0 : d ≠ 0) (h2 : d ≠ 2) : ∀ {k : Nat}, k ≤ m → (ofL (Si.degs (m : Int) es) d k).length ≤ (brs es k).length ∧ ((ofL (Si.degs (m : Int) es) d k).length = (brs es k).length ↔ ∀ v ∈ brs es k, dg es v = d) ∧ ((∀ v ∈ brs es k, dg es v = d) → ofL (Si.degs (m : Int) es) d k = ZL (brs es k))
  | 0, _ => by simp [ofL, brs, ZL]
  | k + 1, hk => by
    obtain ⟨i1, i2, i3⟩ := of_brs hv h0 h2 (k := k) (by omega)
    have hg := gI_degs hv (v := k) (by omega)
    by_cases hd : dg es k = d
    · have e1 : ofL (Si.degs (m : Int) es) d (k + 1) = ofL (Si.degs (m : Int) es) d k ++ [(k : Int)] := if_pos (by rw [hg, hd])
      have e2 : brs es (k + 1) = brs es k ++ [k] := brs_yes (by omega)
      rw [e1, e2]
      refine ⟨by simp; omega, ⟨fun h v hv' => ?_, fun h => ?_⟩, fun h => ?_⟩
      · rcases List.mem_append.1 hv' with h' | h'
        · exact i2.1 (by simpa using h) v h'
        · rw [List.mem_singleton.1 h']
          exact hd
      · have := i2.2 fun v hv' => h v (List.mem_append_left _ hv')
        simp [this]
      · rw [i3 fun v hv' => h v (List.mem_append_left _ hv')]
        simp [ZL]
    · have e1 : ofL (Si.degs (m : Int) es) d (k + 1) = ofL (Si.degs (m : Int) es) d k := if_neg (by rw [hg]; omega)
      by_cases hb : dg es k ≠ 0 ∧ dg es k ≠ 2
      · have e2 : brs es (k + 1) = brs es k ++ [k] := brs_yes hb
        rw [e1, e2]
        refine ⟨by simp; omega, ⟨fun h => ?_, fun h => ?_⟩, fun h => ?_⟩
        · simp at h
          omega
        · exact absurd (h k (by simp)) hd
        · exact absurd (h k (by simp)) hd
      · rw [e1, brs_no hb]
        exact ⟨i1, i2, i3⟩
theorem rest_brs {m : Nat} {es : List (Int × Int)} (hv : Si.Val (m : Int) es) : ∀ {k : Nat}, k ≤ m → (ofL (Si.degs (m : Int) es) 0 k).length + (ofL (Si.degs (m : Int) es) 2 k).length + (brs es k).length = k
  | 0, _ => rfl
  | k + 1, hk => by
    have ih := rest_brs hv (k := k) (by omega)
    have hg := gI_degs hv (v := k) (by omega)
    simp only [ofL, brs]
    rw [hg]
    by_cases h0 : dg es k = 0
    · rw [if_pos (by omega), if_neg (by omega), if_neg (by omega)]
      simp
      omega
    · by_cases h2 : dg es k = 2
      · rw [if_neg (by omega), if_pos (by omega), if_neg (by omega)]
        simp
        omega
      · rw [if_neg (by omega), if_neg (by omega), if_pos (by omega)]
        simp
        omega
theorem is5_iff {m : Nat} {es : List (Int × Int)} (hv : Si.Val (m : Int) es) (R : List (List Int)) : Is5 (Si.degs (m : Int) es) m R ↔ ((brs es m).length = 5 ∧ ∀ v ∈ brs es m, dg es v = 4) ∧ R.length = 10 := by
  obtain ⟨i1, i2, i3⟩ := of_brs hv (d := 4) (by omega) (by omega) (Nat.le_refl m)
  have hr := rest_brs hv (Nat.le_refl m)
  unfold Is5 restI
  constructor
  · rintro ⟨a, b, c⟩
    exact ⟨⟨by omega, i2.1 (by show (ofL (Si.degs (m : Int) es) 4 m).length = _; omega)⟩, c⟩
  · rintro ⟨⟨a, b⟩, c⟩
    have := i2.2 b
    refine ⟨?_, by omega, c⟩
    show (ofL (Si.degs (m : Int) es) (4 : Nat) m).length = 5
    omega
theorem is33_iff {m : Nat} {es : List (Int × Int)} (hv : Si.Val (m : Int) es) (R : List (List Int)) : Is33 (Si.degs (m : Int) es) m R ↔ ((brs es m).length = 6 ∧ ∀ v ∈ brs es m, dg es v = 3) ∧ R.length = 9 := by
  obtain ⟨i1, i2, i3⟩ := of_brs hv (d := 3) (by omega) (by omega) (Nat.le_refl m)
  have hr := rest_brs hv (Nat.le_refl m)
  unfold Is33 restI
  constructor
  · rintro ⟨a, b, c⟩
    exact ⟨⟨by omega, i2.1 (by show (ofL (Si.degs (m : Int) es) 3 m).length = _; omega)⟩, c⟩
  · rintro ⟨⟨a, b⟩, c⟩
    have := i2.2 b
    refine ⟨?_, by omega, c⟩
    show (ofL (Si.degs (m : Int) es) (3 : Nat) m).length = 6
    omega

/-- The sides. -/
theorem across_iff {R : List (List Int)} (hup : ∀ l ∈ R, (ends l).1 ≤ (ends l).2) {L : List Int} (hu : L.Pairwise (· < ·)) {k : Nat} (hk : k < L.length) : Across R L k ↔ jnd R L k = true := by
  unfold jnd
  by_cases h0 : k = 0
  · subst h0
    constructor
    · rintro ⟨-, h⟩; omega
    · intro h
      obtain ⟨i, hi⟩ := Option.isSome_iff_exists.1 h
      have := (opn_some (Nat.le_refl _) hi).2
      obtain ⟨l, -, -, h⟩ := this
      exact absurd rfl h
  · have hlt : gI L 0 < gI L k := gI_up hu (by omega) hk
    constructor
    · rintro ⟨⟨l, hl, hle⟩, -⟩
      have := hup l hl
      have he : ends l = (gI L 0, gI L k) := by
        unfold ends at this ⊢
        rcases hle with ⟨a, b⟩ | ⟨a, b⟩
        · rw [a, b]
        · dsimp only at this
          omega
      cases ho : opn R R.length (gI L 0, gI L k) with
      | some i => rfl
      | none =>
        obtain ⟨t, ht⟩ := List.getElem?_of_mem hl
        exact absurd he (opn_none (Nat.le_refl _) ho (by dsimp only; omega) t l (List.getElem?_eq_some_iff.1 ht).1 ht)
    · intro h
      obtain ⟨i, hi⟩ := Option.isSome_iff_exists.1 h
      obtain ⟨_, l, hl, he, -⟩ := opn_some (Nat.le_refl _) hi
      refine ⟨⟨l, List.mem_of_getElem? hl, .inl ?_⟩, by omega⟩
      unfold ends at he
      exact ⟨congrArg Prod.fst he, congrArg Prod.snd he⟩
theorem sides_eq {R : List (List Int)} (hup : ∀ l ∈ R, (ends l).1 ≤ (ends l).2) {L : List Int} (hu : L.Pairwise (· < ·)) : ∀ {k : Nat}, k ≤ L.length → nearL R L k = nearK R L k ∧ farL R L k = farK R L k
  | 0, _ => ⟨rfl, rfl⟩
  | k + 1, hk => by
    obtain ⟨i1, i2⟩ := sides_eq hup hu (k := k) (by omega)
    have ha := across_iff hup hu (k := k) (by omega)
    by_cases hj : jnd R L k = true
    · rw [near_yes (ha.2 hj), far_yes (ha.2 hj), (nfK_yes hj).1, (nfK_yes hj).2, i1, i2]
      exact ⟨rfl, rfl⟩
    · have hj' : jnd R L k = false := by simpa using hj
      rw [near_no fun h => hj (ha.1 h), far_no fun h => hj (ha.1 h), (nfK_no hj').1, (nfK_no hj').2, i1, i2]
      exact ⟨rfl, rfl⟩
end Ku
end Go.Proofs.Ytdhaaodalchpkaa

/-
  Layer 15, pure: the document's Recognise answers what the program's does.
-/
namespace Go.Proofs.Ytdhaaodalchpkaa
open Go.RowKit Go.Sort Go.Maps

namespace Ku
theorem jnd_zero (R : List (List Int)) (L : List Int) : jnd R L 0 = false := by
  unfold jnd
  cases h : opn R R.length (gI L 0, gI L 0) with
  | none => rfl
  | some i =>
    obtain ⟨_, _, _, _, h⟩ := opn_some (Nat.le_refl _) h
    exact absurd rfl h
theorem nearK_head (R : List (List Int)) (L : List Int) : ∀ k, ∃ t, nearK R L (k + 1) = gI L 0 :: t
  | 0 => ⟨[], by rw [(nfK_no (jnd_zero R L)).1]; rfl⟩
  | k + 1 => by
    obtain ⟨t, ht⟩ := nearK_head R L k
    cases hj : jnd R L (k + 1) with
    | true => exact ⟨t, by rw [(nfK_yes hj).1, ht]⟩
    | false => exact ⟨t ++ [gI L (k + 1)], by rw [(nfK_no hj).1, ht]; rfl⟩
theorem six_form {L : List Int} (h : L.length = 6) : ∃ a b c d e f, L = [a, b, c, d, e, f] := by
  match L, h with
  | [a, b, c, d, e, f], _ => exact ⟨a, b, c, d, e, f, rfl⟩
theorem out2 : out 2 6 6 = [(0, 3), (0, 4), (0, 5), (1, 3), (1, 4), (1, 5), (2, 3), (2, 4), (2, 5)] := by decide
theorem out1 : out 1 5 5 = [(0, 1), (0, 2), (0, 3), (0, 4), (1, 2), (1, 3), (1, 4), (2, 3), (2, 4), (3, 4)] := by decide

/-- What the document's Recognise answers. -/
def AnsD (B : Nat) (o : Option (Int × List Int × List (List Int))) (e : Ending) (w' : World) : Prop :=
  match o with
  | none => e = .returned (.tuple #[noKura, .bool false, .int .i64 0])
  | some (kd, br, ps) => ∃ v1 v2, e = .returned (.tuple #[.agg #[.int .i64 kd, v1, v2], .bool true, .int .i64 0]) ∧ SeesI w' v1 br ∧ NewI B v1 ∧ SeesLN B w' v2 ps

theorem found_ans {B kd : Nat} {R : List (List Int)} (hup : ∀ l ∈ R, (ends l).1 ≤ (ends l).2) {br : List Int} {ps : List (Int × Int)} (hps : ps = (out kd br.length br.length).map fun q => (gI br q.1, gI br q.2)) (hlen : R.length = ps.length) (hpw : ps.Pairwise fun p q => key p ≠ key q) (hne : ∀ p ∈ ps, p.1 ≠ p.2) {e : Ending} {w' : World} (h : Found B kd R br e w') : AnsD B (kur R (kd : Int) br ps) e w' := by
  obtain ⟨h1, h2⟩ := found_iff hup hps hlen hpw hne
  unfold kur
  rcases h with ⟨⟨p, hp, hp1⟩, rfl⟩ | ⟨ha, v1, v2, rfl, hs1, hn1, hs2⟩
  · rw [if_neg fun hA => hp1 (h1.2 hA p hp)]
    rfl
  · have hA := h1.1 ha
    rw [if_pos hA]
    rw [h2 hA] at hs2
    refine ⟨v1, v2, ?_, hs1, hn1, hs2⟩
    have : (((out kd br.length br.length).length : Int) == (R.length : Int)) = true := by
      rw [hlen, hps, List.length_map]
      simp
    rw [this]

theorem pairs10 {a b c d e f : Int} (n1 : a ≠ b) (n2 : a ≠ c) (n3 : a ≠ d) (n4 : a ≠ e) (n5 : a ≠ f) (n6 : b ≠ c) (n7 : b ≠ d) (n8 : b ≠ e) (n9 : b ≠ f) (n10 : c ≠ d) (n11 : c ≠ e) (n12 : c ≠ f) (n13 : d ≠ e) (n14 : d ≠ f) (n15 : e ≠ f) :
    ([(a, c), (a, d), (a, e), (a, f), (b, d), (b, e), (b, f), (c, d), (c, e), (c, f)] : List (Int × Int)).Pairwise fun p q => key p ≠ key q := by
  simp only [List.pairwise_cons, List.mem_cons, List.not_mem_nil, or_false, forall_eq_or_imp, forall_eq, false_implies, implies_true, List.Pairwise.nil, and_true]
  refine ⟨⟨?_, ?_, ?_, ?_, ?_, ?_, ?_, ?_, ?_⟩, ⟨?_, ?_, ?_, ?_, ?_, ?_, ?_, ?_⟩, ⟨?_, ?_, ?_, ?_, ?_, ?_, ?_⟩, ⟨?_, ?_, ?_, ?_, ?_, ?_⟩, ⟨?_, ?_, ?_, ?_, ?_⟩, ⟨?_, ?_, ?_, ?_⟩, ⟨?_, ?_, ?_⟩, ⟨?_, ?_⟩, ?_⟩ <;> exact key_ne (by simp [*]) (by simp [*])

/-- Where the sides are not three and three, some pair has not just one chain. -/
theorem not_three {R : List (List Int)} (hup : ∀ l ∈ R, (ends l).1 ≤ (ends l).2) (hR : R.length = 9) {L : List Int} (h6 : L.length = 6) (hu : L.Pairwise (· < ·)) (h3 : (nearK R L 6).length ≠ 3) :
    ¬ ∀ q ∈ out 2 6 6, (way R (nearK R L 6 ++ farK R L 6) q).2 = 1 := by
  intro hall
  have hnf := nf_length R L 6
  obtain ⟨t, ht⟩ := nearK_head R L 5
  have uN := nearK_up (R := R) hu (k := 6) (by omega)
  have uF := farK_up (R := R) hu (k := 6) (by omega)
  have ap : ∀ p ∈ nearK R L 6, ∀ q ∈ farK R L 6, p ≠ q := fun p hp q hq => nf_apart (R := R) hu (by rw [h6]; exact hp) (by rw [h6]; exact hq)
  have hnd : (nearK R L 6 ++ farK R L 6).Pairwise (· ≠ ·) := by
    rw [List.pairwise_append]
    exact ⟨uN.imp (by intro a b h; omega), uF.imp (by intro a b h; omega), ap⟩
  have hb0 : gI (nearK R L 6 ++ farK R L 6) 0 = gI L 0 := by rw [ht]; rfl
  have hbl : (nearK R L 6 ++ farK R L 6).length = 6 := by rw [List.length_append]; exact hnf
  obtain ⟨br, hbr⟩ : ∃ br, nearK R L 6 ++ farK R L 6 = br := ⟨_, rfl⟩
  have hmem : ∀ i, i < 6 → ∃ x, gI br i = x ∧ ((i < (nearK R L 6).length ∧ x ∈ nearK R L 6) ∨ ((nearK R L 6).length ≤ i ∧ x ∈ farK R L 6)) := by
    intro i hi
    refine ⟨_, rfl, ?_⟩
    rw [← hbr]
    by_cases hn : i < (nearK R L 6).length
    · refine .inl ⟨hn, ?_⟩
      have : (nearK R L 6 ++ farK R L 6)[i]? = some ((nearK R L 6)[i]) := by rw [List.getElem?_append_left hn]; exact List.getElem?_eq_getElem hn
      rw [gI_at this]
      exact List.getElem_mem _
    · refine .inr ⟨by omega, ?_⟩
      have hlt : i - (nearK R L 6).length < (farK R L 6).length := by omega
      have : (nearK R L 6 ++ farK R L 6)[i]? = some ((farK R L 6)[i - (nearK R L 6).length]) := by rw [List.getElem?_append_right (by omega)]; exact List.getElem?_eq_getElem hlt
      rw [gI_at this]
      exact List.getElem_mem _
  rw [hbr] at hall hnd hb0 hbl
  obtain ⟨a, b, c, d, e, f, hf⟩ := six_form hbl
  have hd6 := hnd
  rw [hf] at hd6
  simp only [List.pairwise_cons, List.mem_cons, List.not_mem_nil, or_false, forall_eq_or_imp, forall_eq, false_implies, implies_true, List.Pairwise.nil, and_true] at hd6
  obtain ⟨⟨n1, n2, n3, n4, n5⟩, ⟨n6, n7, n8, n9⟩, ⟨n10, n11, n12⟩, ⟨n13, n14⟩, n15⟩ := hd6
  have g0 : gI br 0 = a := by rw [hf]; rfl
  have g2 : gI br 2 = c := by rw [hf]; rfl
  have g3 : gI br 3 = d := by rw [hf]; rfl
  have hcT : ∀ q ∈ out 2 6 6, gI br q.1 ≠ gI br q.2 → cT R (key (gI br q.1, gI br q.2)) R.length = 1 := fun q hq hne => by
    have := hall q hq
    unfold way at this
    rw [betw_eq hup hne (Nat.le_refl _)] at this
    exact this
  have hlow : ∀ i, i < 6 → i ≠ 0 → ∀ j, j < 6 → gI br i = gI L j → key (gI br 0, gI br i) = (gI L 0, gI L j) ∧ gI L 0 < gI L j := fun i hi hi0 j hj e => by
    have hne : gI br 0 ≠ gI br i := by
      have := List.pairwise_iff_getElem.1 hnd 0 i (by omega) (by omega) (by omega)
      rw [gI_at (List.getElem?_eq_getElem (show 0 < br.length by omega)), gI_at (List.getElem?_eq_getElem (show i < br.length by omega))]
      exact this
    have hj0 : j ≠ 0 := fun h => hne (by rw [hb0, e, h])
    have hlt : gI L 0 < gI L j := gI_up hu (by omega) (by omega)
    exact ⟨by rw [hb0, e]; exact key_lt hlt, hlt⟩
  by_cases h4 : 4 ≤ (nearK R L 6).length
  · obtain ⟨x, hx, hc⟩ := hmem 3 (by omega)
    have hxn : x ∈ nearK R L 6 := by
      rcases hc with h | h
      · exact h.2
      · omega
    obtain ⟨i, hi, rfl, hj⟩ := mem_nearK hxn
    obtain ⟨hk, hlt⟩ := hlow 3 (by omega) (by omega) i (by omega) hx
    have h1 := hcT (0, 3) (by rw [out2]; simp) (by dsimp only; rw [g0, g3]; exact n3)
    dsimp only at h1
    rw [hk] at h1
    unfold jnd at hj
    have : opn R R.length (gI L 0, gI L i) = none := by simpa using hj
    have := (cT_opn (R := R) (p := (gI L 0, gI L i)) (by dsimp only; omega) (k := R.length)).2 this
    omega
  · have hN1 : (nearK R L 6).length ≤ 2 := by omega
    obtain ⟨x, hx, hc⟩ := hmem 2 (by omega)
    have hxf : x ∈ farK R L 6 := by
      rcases hc with h | h
      · omega
      · exact h.2
    obtain ⟨i, hi, rfl, hj⟩ := mem_farK hxf
    obtain ⟨hk, hlt⟩ := hlow 2 (by omega) (by omega) i (by omega) hx
    have hc1 : 1 ≤ cT R (key (gI br 0, gI br 2)) R.length := by
      rw [hk]
      refine Classical.byContradiction fun hc => ?_
      have := (cT_opn (R := R) (p := (gI L 0, gI L i)) (by dsimp only; omega) (k := R.length)).1 (by omega)
      unfold jnd at hj
      rw [this] at hj
      cases hj
    have hpw := pairs10 n1 n2 n3 n4 n5 n6 n7 n8 n9 n10 n11 n12 n13 n14 n15
    have hs := sum_cT (R := R) hpw R.length
    have hge : ∀ x ∈ ([(a, c), (a, d), (a, e), (a, f), (b, d), (b, e), (b, f), (c, d), (c, e), (c, f)] : List (Int × Int)).map fun p => cT R (key p) R.length, 1 ≤ x := by
      have r : ∀ q ∈ out 2 6 6, gI br q.1 ≠ gI br q.2 → 1 ≤ cT R (key (gI br q.1, gI br q.2)) R.length := fun q hq hne => by rw [hcT q hq hne]; exact Nat.le_refl _
      rw [out2] at r
      simp only [List.mem_cons, List.not_mem_nil, or_false, forall_eq_or_imp, forall_eq, hf] at r
      obtain ⟨r1, r2, r3, r4, r5, r6, r7, r8, r9⟩ := r
      rw [hf] at hc1
      intro x hx
      simp only [List.map_cons, List.map_nil, List.mem_cons, List.not_mem_nil, or_false] at hx
      rcases hx with rfl | rfl | rfl | rfl | rfl | rfl | rfl | rfl | rfl | rfl
      · exact hc1
      · exact r1 n3
      · exact r2 n4
      · exact r3 n5
      · exact r4 n7
      · exact r5 n8
      · exact r6 n9
      · exact r7 n10
      · exact r8 n11
      · exact r9 n12
    have := len_sum hge
    rw [List.length_map] at this
    simp only [List.length_cons, List.length_nil] at this
    omega

theorem kur_few {R : List (List Int)} {kd : Int} {br : List Int} {ps : List (Int × Int)} (h : R.length ≠ ps.length) : kur R kd br ps = none := by
  unfold kur
  exact if_neg fun hA => h hA.1
theorem brs_small {m : Nat} {es : List (Int × Int)} (hv : Si.Val (m : Int) es) : ∀ x ∈ ZL (brs es m), 0 ≤ x ∧ x < 1048576 := by
  intro x hx
  unfold ZL at hx
  obtain ⟨v, hv', rfl⟩ := List.mem_map.1 hx
  have := (mem_brs.1 hv').1
  have := hv.hi
  omega
theorem pout_len (a b c d e : Int) : (pout [a, b, c, d, e] 5).length = 10 := rfl
/-- The document's answer is the program's. -/
theorem recP_ans {n : Int} {es : List (Int × Int)} {w w' : World} {e : Ending} (h : RecP n es w e w') :
    ((Si.valid n es = false ∧ e = .returned (.tuple #[noKura, .bool false, .int .i64 1])) ∨ ∃ (m : Nat) (hv : Si.Val n es), n = (m : Int) ∧ AnsD w.heap.size (recA (rows es hv es.length) es m) e w') ∧ Below w.heap.size w w' := by
  obtain ⟨hc, hb⟩ := h
  refine ⟨?_, hb⟩
  rcases hc with h | ⟨m, hv, rfl, hc⟩
  · exact .inl h
  · refine .inr ⟨m, hv, rfl, ?_⟩
    have hup := rows_up hv
    have hL := ZL_up (brs_up es m)
    have hsm := brs_small hv
    rcases hc with ⟨h5, h33, rfl⟩ | ⟨h5, hf⟩ | ⟨h33, hf⟩
    · rw [is5_iff hv] at h5
      rw [is33_iff hv] at h33
      have : recA (rows es hv es.length) es m = none := by
        by_cases c5 : (brs es m).length = 5 ∧ ∀ v ∈ brs es m, dg es v = 4
        · rw [recA_5 c5.1 c5.2]
          refine kur_few fun hR => h5 ⟨c5, ?_⟩
          obtain ⟨a, b, c, d, e, hf⟩ := five_form (L := ZL (brs es m)) (by rw [ZL_length]; exact c5.1)
          rw [hf] at hR
          exact hR
        · by_cases c6 : (brs es m).length = 6 ∧ (∀ v ∈ brs es m, dg es v = 3) ∧ (nearK (rows es hv es.length) (ZL (brs es m)) 6).length = 3
          · rw [recA_6 c6.1 c6.2.1 c6.2.2]
            refine kur_few fun hR => h33 ⟨⟨c6.1, c6.2.1⟩, ?_⟩
            rw [cout_length] at hR
            have := nf_length (rows es hv es.length) (ZL (brs es m)) 6
            rw [hR]
            omega
          · exact recA_no c5 c6
      rw [this]
      rfl
    · obtain ⟨⟨c1, c2⟩, c3⟩ := (is5_iff hv _).1 h5
      obtain ⟨-, -, i3⟩ := of_brs hv (d := 4) (by omega) (by omega) (Nat.le_refl m)
      have i3 : ofL (Si.degs (m : Int) es) 4 m = ZL (brs es m) := i3 c2
      rw [i3] at hf
      rw [recA_5 c1 c2]
      have hl5 : (ZL (brs es m)).length = 5 := by rw [ZL_length]; exact c1
      have hok := (pout_ok hl5 hL hsm).2
      obtain ⟨a, b, c, d, e', hform⟩ := five_form hl5
      rw [hform] at hf hok hL ⊢
      simp only [List.pairwise_cons, List.mem_cons, List.not_mem_nil, or_false, forall_eq_or_imp, forall_eq] at hL
      obtain ⟨⟨u1, u2, u3, u4⟩, ⟨u5, u6, u7⟩, ⟨u8, u9⟩, u10, -⟩ := hL
      refine found_ans (kd := 1) hup ?_ (by rw [c3]; rfl) (apart_pw hok) ?_ hf
      · show _ = (out 1 5 5).map _
        rw [out1]
        rfl
      · rw [pout5]
        simp only [List.mem_cons, List.not_mem_nil, or_false, forall_eq_or_imp, forall_eq]
        refine ⟨?_, ?_, ?_, ?_, ?_, ?_, ?_, ?_, ?_, ?_⟩ <;> omega
    · obtain ⟨⟨c1, c2⟩, c3⟩ := (is33_iff hv _).1 h33
      obtain ⟨-, -, i3⟩ := of_brs hv (d := 3) (by omega) (by omega) (Nat.le_refl m)
      have i3 : ofL (Si.degs (m : Int) es) 3 m = ZL (brs es m) := i3 c2
      have hl6 : (ZL (brs es m)).length = 6 := by rw [ZL_length]; exact c1
      rw [i3] at hf
      obtain ⟨s1, s2⟩ := sides_eq hup hL (k := 6) (by omega)
      rw [s1, s2] at hf
      have hnf := nf_length (rows es hv es.length) (ZL (brs es m)) 6
      have hbl : (nearK (rows es hv es.length) (ZL (brs es m)) 6 ++ farK (rows es hv es.length) (ZL (brs es m)) 6).length = 6 := by rw [List.length_append]; exact hnf
      by_cases h3 : (nearK (rows es hv es.length) (ZL (brs es m)) 6).length = 3
      · rw [recA_6 c1 c2 h3]
        have hok := (cout_ok hl6 hL hsm h3).2
        have hap : ∀ p ∈ nearK (rows es hv es.length) (ZL (brs es m)) 6, ∀ q ∈ farK (rows es hv es.length) (ZL (brs es m)) 6, p ≠ q := fun p hp q hq => nf_apart (R := rows es hv es.length) hL (by rw [hl6]; exact hp) (by rw [hl6]; exact hq)
        have hcl := cout_length (nearK (rows es hv es.length) (ZL (brs es m)) 6) (farK (rows es hv es.length) (ZL (brs es m)) 6) 3
        have hlen : (rows es hv es.length).length = (cout (nearK (rows es hv es.length) (ZL (brs es m)) 6) (farK (rows es hv es.length) (ZL (brs es m)) 6) 3).length := by rw [hcl, c3]; omega
        generalize nearK (rows es hv es.length) (ZL (brs es m)) 6 = N at *
        generalize farK (rows es hv es.length) (ZL (brs es m)) 6 = F at *
        obtain ⟨a, b, c, rfl⟩ := three_form h3
        obtain ⟨x, y, z, rfl⟩ := three_form (L := F) (by simp at hnf; omega)
        refine found_ans (kd := 2) hup ?_ hlen (apart_pw hok) ?_ hf
        · show _ = (out 2 6 6).map _
          rw [out2]
          rfl
        · rw [cout3]
          simp only [List.mem_cons, List.not_mem_nil, or_false, forall_eq_or_imp, forall_eq] at hap ⊢
          obtain ⟨⟨a1, a2, a3⟩, ⟨a4, a5, a6⟩, a7, a8, a9⟩ := hap
          exact ⟨a1, a2, a3, a4, a5, a6, a7, a8, a9⟩
      · have hno : recA (rows es hv es.length) es m = none := recA_no (fun h => by omega) fun h => h3 h.2.2
        rw [hno]
        have hbad := not_three hup c3 hl6 hL h3
        rcases hf with ⟨-, rfl⟩ | ⟨ha, -⟩
        · rfl
        · rw [hbl] at ha
          exact absurd ha hbad
end Ku
end Go.Proofs.Ytdhaaodalchpkaa
