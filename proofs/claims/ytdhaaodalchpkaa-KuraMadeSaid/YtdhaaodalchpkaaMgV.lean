import Derived.Test.YtdhaaodalchpkaaMgP
import Derived.Test.YtdhaaodalchpkaaMgA
/-
  Layer 15, pure: a graph that paths make up, as Shows says, is what Recognise tells.
-/
namespace Go.Proofs.Ytdhaaodalchpkaa
open Go.RowKit Go.Sort Go.Maps

namespace Ku
theorem flat_pos {α β : Type} {ts : List (List α)} {φ : α → β} (hn : (ts.flatten.map φ).Nodup) {k k' i i' : Nat} {l l' : List α} {x x' : α} (hl : ts[k]? = some l) (hl' : ts[k']? = some l') (hx : l[i]? = some x) (hx' : l'[i']? = some x') (e : φ x = φ x') : k = k' ∧ i = i' := by
  rw [List.nodup_iff_pairwise_ne, List.pairwise_map, List.pairwise_flatten] at hn
  obtain ⟨h1, h2⟩ := hn
  rw [List.pairwise_iff_getElem] at h2
  obtain ⟨a1, a2⟩ := List.getElem?_eq_some_iff.1 hl
  obtain ⟨b1, b2⟩ := List.getElem?_eq_some_iff.1 hl'
  rcases Nat.lt_trichotomy k k' with h | rfl | h
  · exact absurd e (h2 k k' a1 b1 h x (by rw [a2]; exact List.mem_of_getElem? hx) x' (by rw [b2]; exact List.mem_of_getElem? hx'))
  · rw [hl] at hl'
    cases hl'
    have h3 := List.pairwise_iff_getElem.1 (h1 l (List.mem_of_getElem? hl))
    obtain ⟨c1, c2⟩ := List.getElem?_eq_some_iff.1 hx
    obtain ⟨d1, d2⟩ := List.getElem?_eq_some_iff.1 hx'
    rcases Nat.lt_trichotomy i i' with h | rfl | h
    · exact absurd (by rw [c2, d2]; exact e) (h3 i i' c1 d1 h)
    · exact ⟨rfl, rfl⟩
    · exact absurd (by rw [c2, d2]; exact e.symm) (h3 i' i d1 c1 h)
  · exact absurd e.symm (h2 k' k b1 a1 h x' (by rw [b2]; exact List.mem_of_getElem? hx') x (by rw [a2]; exact List.mem_of_getElem? hx))

theorem out_pairs {kd q : Nat} (hk : (kd = 1 ∧ q = 5) ∨ (kd = 2 ∧ q = 6)) : ∀ p ∈ out kd q q, p.1 < p.2 ∧ p.2 < q := by
  rcases hk with ⟨rfl, rfl⟩ | ⟨rfl, rfl⟩ <;> decide
theorem out_has {kd q : Nat} (hk : (kd = 1 ∧ q = 5) ∨ (kd = 2 ∧ q = 6)) {i j : Nat} (hi : i < q) (hj : j < q) (hij : i < j) (hs : kd = 2 → i < 3 ∧ 3 ≤ j) : (i, j) ∈ out kd q q := by
  refine List.mem_of_getElem? (pair_next hk hi hj hij ?_)
  rintro ⟨h1, h2⟩
  have := hs h1
  omega
theorem out_side : ∀ p ∈ out 2 6 6, p.1 < 3 ∧ 3 ≤ p.2 := by decide

section
variable {es : List (Int × Int)} {m kd q : Nat} {br : List Int} {ps : List (List Int)} {ts : List (List Nat)} {hv : Si.Val (m : Int) es}

theorem Shows.path (s : Shows es m kd q br ps ts) {k : Nat} {l : List Nat} (hl : ts[k]? = some l) : ∃ c p, ps[k]? = some c ∧ (out kd q q)[k]? = some p ∧ Way es c l ∧ gI c 0 = gI br p.1 ∧ gI c l.length = gI br p.2 ∧ p.1 < p.2 ∧ p.2 < q := by
  have hk := (List.getElem?_eq_some_iff.1 hl).1
  obtain ⟨c, hc⟩ : ∃ c, ps[k]? = some c := ⟨_, List.getElem?_eq_getElem (by rw [← s.tl]; exact hk)⟩
  obtain ⟨p, hp⟩ : ∃ p, (out kd q q)[k]? = some p := ⟨_, List.getElem?_eq_getElem (by rw [← s.pl, ← s.tl]; exact hk)⟩
  have hw := s.way k c l hc hl
  have he := s.ends k c p hc hp
  have ho := out_pairs s.kdq p (List.mem_of_getElem? hp)
  exact ⟨c, p, hc, hp, hw, he.1, by rw [← he.2, hw.len]; rfl, ho.1, ho.2⟩
theorem Shows.br_mem (s : Shows es m kd q br ps ts) {i : Nat} (hi : i < q) : gI br i ∈ br := by
  have h : br[i]? = some (br[i]'(by rw [s.brl]; exact hi)) := List.getElem?_eq_getElem _
  rw [gI_at h]
  exact List.getElem_mem _
theorem Shows.br_inj (s : Shows es m kd q br ps ts) {i j : Nat} (hi : i < q) (hj : j < q) (e : gI br i = gI br j) : i = j := by
  have h1 : br[i]? = some (br[i]'(by rw [s.brl]; exact hi)) := List.getElem?_eq_getElem _
  have h2 : br[j]? = some (br[j]'(by rw [s.brl]; exact hj)) := List.getElem?_eq_getElem _
  rw [gI_at h1, gI_at h2] at e
  exact (List.getElem_inj s.brnd).1 e
theorem Shows.lt (s : Shows es m kd q br ps ts) {k i x : Nat} {l : List Nat} (hl : ts[k]? = some l) (hx : l[i]? = some x) : x < 2 * es.length := by
  obtain ⟨c, p, _, _, hw, _⟩ := s.path hl
  exact (hw.at_ i x hx).1
theorem mem_flat {ts : List (List Nat)} {x : Nat} (h : x ∈ ts.flatten) : ∃ (k i : Nat) (l : List Nat), ts[k]? = some l ∧ l[i]? = some x := by
  obtain ⟨l, hl, hx⟩ := List.mem_flatten.1 h
  obtain ⟨k, hk⟩ := List.getElem?_of_mem hl
  obtain ⟨i, hi⟩ := List.getElem?_of_mem hx
  exact ⟨k, i, l, hk, hi⟩
theorem Shows.half (s : Shows es m kd q br ps ts) {h : Nat} (hh : h < 2 * es.length) : h ∈ ts.flatten ∨ Cs.twin h ∈ ts.flatten := by
  have h1 : h / 2 ∈ ts.flatten.map (· / 2) := pigeon (J := es.length) s.once (by rw [List.length_map]; exact s.all) (fun a ha => by
    obtain ⟨x, hx, rfl⟩ := List.mem_map.1 ha
    obtain ⟨k, i, l, hl, hi⟩ := mem_flat hx
    have := s.lt hl hi
    omega) (by omega)
  obtain ⟨x, hx, e⟩ := List.mem_map.1 h1
  have : x = h ∨ x = Cs.twin h := by
    unfold Cs.twin
    split <;> omega
  rcases this with rfl | rfl
  · exact .inl hx
  · exact .inr hx
/-- Where a half-edge begins: at a branch vertex, or within a path. -/
theorem Shows.begins (s : Shows es m kd q br ps ts) {k i x : Nat} {l : List Nat} (hl : ts[k]? = some l) (hx : l[i]? = some x) :
    (i = 0 ∧ ∃ p, (out kd q q)[k]? = some p ∧ (Cs.fr es x : Int) = gI br p.1) ∨ (∃ j y, i = j + 1 ∧ l[j]? = some y ∧ Cs.to es y = Cs.fr es x ∧ j + 1 < l.length) := by
  obtain ⟨c, p, _, hp, hw, h0, _, _⟩ := s.path hl
  obtain ⟨_, h1, h2⟩ := hw.at_ i x hx
  cases i with
  | zero => exact .inl ⟨rfl, p, hp, by rw [← h0, gI_at h1]⟩
  | succ j =>
    have hlt := (List.getElem?_eq_some_iff.1 hx).1
    obtain ⟨y, hy⟩ : ∃ y, l[j]? = some y := ⟨_, List.getElem?_eq_getElem (by omega)⟩
    obtain ⟨_, _, h3⟩ := hw.at_ j y hy
    rw [h1] at h3
    have : (Cs.fr es x : Int) = Cs.to es y := Option.some.inj h3
    exact .inr ⟨j, y, rfl, hy, by omega, hlt⟩
theorem Shows.comes (s : Shows es m kd q br ps ts) {k i x : Nat} {l : List Nat} (hl : ts[k]? = some l) (hx : l[i]? = some x) :
    (i + 1 = l.length ∧ ∃ p, (out kd q q)[k]? = some p ∧ (Cs.to es x : Int) = gI br p.2) ∨ i + 1 < l.length := by
  obtain ⟨c, p, _, hp, hw, _, h0, _⟩ := s.path hl
  have hlt := (List.getElem?_eq_some_iff.1 hx).1
  by_cases e : i + 1 < l.length
  · exact .inr e
  · obtain ⟨_, h1, h2⟩ := hw.at_ i x hx
    have e2 : i + 1 = l.length := by omega
    exact .inl ⟨e2, p, hp, by rw [← h0, ← e2, gI_at h2]⟩
theorem Shows.inner_off (s : Shows es m kd q br ps ts) {k i x : Nat} {l : List Nat} (hl : ts[k]? = some l) (hx : l[i]? = some x) (hi : i + 1 < l.length) : (Cs.to es x : Int) ∉ br :=
  s.off _ (List.mem_of_getElem? (vert_at hl hx hi))
theorem Shows.inner_one (s : Shows es m kd q br ps ts) {k k' i i' x x' : Nat} {l l' : List Nat} (hl : ts[k]? = some l) (hl' : ts[k']? = some l') (hx : l[i]? = some x) (hx' : l'[i']? = some x') (hi : i + 1 < l.length) (hi' : i' + 1 < l'.length) (e : Cs.to es x = Cs.to es x') : k = k' ∧ i = i' :=
  flat_pos (ts := ts.map (innV es)) (φ := id) (by rw [List.map_id]; exact s.inn) (by rw [List.getElem?_map, hl]; rfl) (by rw [List.getElem?_map, hl']; rfl) (inn_at hx hi) (inn_at hx' hi') e
/-- Who begins within a path. -/
theorem Shows.at_inner (s : Shows es m kd q br ps ts) {k i x y : Nat} {l : List Nat} (hl : ts[k]? = some l) (hx : l[i]? = some x) (hy : l[i + 1]? = some y) {h : Nat} (hh : h < 2 * es.length) (e : Cs.fr es h = Cs.to es x) : h = Cs.twin x ∨ h = y := by
  have hi : i + 1 < l.length := (List.getElem?_eq_some_iff.1 hy).1
  have hoff := s.inner_off hl hx hi
  rcases s.half hh with hf | hf
  · obtain ⟨k', i', l', hl', hx'⟩ := mem_flat hf
    rcases s.begins hl' hx' with ⟨_, p, hp, h1⟩ | ⟨j, z, rfl, hz, h1, hlt⟩
    · refine absurd ?_ hoff
      rw [← e, h1]
      exact s.br_mem (by have := out_pairs s.kdq p (List.mem_of_getElem? hp); omega)
    · obtain ⟨rfl, rfl⟩ := s.inner_one hl hl' hx hz hi hlt (by rw [h1, e])
      rw [hl] at hl'
      cases hl'
      rw [hy] at hx'
      cases hx'
      exact .inr rfl
  · obtain ⟨k', i', l', hl', hx'⟩ := mem_flat hf
    have h1 : Cs.to es (Cs.twin h) = Cs.to es x := by rw [Cs.to_twin, e]
    rcases s.comes hl' hx' with ⟨_, p, hp, h2⟩ | hlt
    · refine absurd ?_ hoff
      rw [← h1, h2]
      exact s.br_mem (out_pairs s.kdq p (List.mem_of_getElem? hp)).2
    · obtain ⟨rfl, rfl⟩ := s.inner_one hl hl' hx hx' hi hlt h1.symm
      rw [hl] at hl'
      cases hl'
      rw [hx] at hx'
      cases hx'
      exact .inl (twin_twin h).symm
theorem out_nd (es : List (Int × Int)) (v k : Nat) : (Cs.out es v k).Nodup := by
  rw [List.nodup_iff_pairwise_ne, List.pairwise_iff_getElem]
  intro i j hi hj hij
  have := Cs.out_rises hij (List.getElem?_eq_getElem hi) (List.getElem?_eq_getElem hj)
  omega
theorem two_of {L : List Nat} (hn : L.Nodup) {a b : Nat} (hab : a ≠ b) (h : ∀ x, x ∈ L ↔ x = a ∨ x = b) : L = [a, b] ∨ L = [b, a] := by
  match L, hn, h with
  | [], _, h => exact absurd ((h a).2 (.inl rfl)) (by simp)
  | [x], _, h =>
    have h1 := (h a).2 (.inl rfl)
    have h2 := (h b).2 (.inr rfl)
    simp at h1 h2
    omega
  | [x, y], hn, h =>
    have h1 := (h x).1 (by simp)
    have h2 := (h y).1 (by simp)
    have h3 : x ≠ y := by simpa using hn
    rcases h1 with rfl | rfl <;> rcases h2 with rfl | rfl
    · exact absurd rfl h3
    · exact .inl rfl
    · exact .inr rfl
    · exact absurd rfl h3
  | x :: y :: z :: L, hn, h =>
    exfalso
    have h1 := (h x).1 (by simp)
    have h2 := (h y).1 (by simp)
    have h3 := (h z).1 (by simp)
    simp only [List.nodup_cons, List.mem_cons, not_or] at hn
    omega
theorem Shows.nxt (s : Shows es m kd q br ps ts) {k i x y : Nat} {l : List Nat} (hl : ts[k]? = some l) (hx : l[i]? = some x) (hy : l[i + 1]? = some y) : nxt es x = some y := by
  obtain ⟨c, p, _, hp, hw, _⟩ := s.path hl
  obtain ⟨xl, _, h3⟩ := hw.at_ i x hx
  obtain ⟨yl, h1, _⟩ := hw.at_ (i + 1) y hy
  rw [h3] at h1
  have hfy : Cs.fr es y = Cs.to es x := by have : (Cs.to es x : Int) = Cs.fr es y := Option.some.inj h1; omega
  have hne : y ≠ Cs.twin x := fun e => by
    have := (flat_pos s.once hl hl hx hy (by rw [e, twin_half])).2
    omega
  have := two_of (out_nd es (Cs.to es x) (2 * es.length)) (a := Cs.twin x) (b := y) (fun e => hne e.symm) fun h => by
    rw [mem_out]
    constructor
    · rintro ⟨h1, h2⟩
      exact s.at_inner hl hx hy h1 h2
    · rintro (rfl | rfl)
      · exact ⟨Cs.twin_lt xl, Cs.fr_twin es x⟩
      · exact ⟨yl, hfy⟩
  exact nxt_of this hne
theorem Shows.tr (s : Shows es m kd q br ps ts) {k : Nat} {l : List Nat} (hl : ts[k]? = some l) : Tr (gs es hv).toSys l := fun _ _ _ ha hb => s.nxt hl ha hb

/-- The paths that end at the i-th branch vertex. -/
def endK (kd q i : Nat) : List Nat := (List.range (out kd q q).length).filter fun k => decide (((out kd q q).getD k (0, 0)).1 = i) || decide (((out kd q q).getD k (0, 0)).2 = i)
/-- The half-edge by which the k-th path leaves the i-th branch vertex. -/
def sig (kd q : Nat) (ts : List (List Nat)) (i k : Nat) : Nat := if ((out kd q q).getD k (0, 0)).1 = i then (ts.getD k []).getD 0 0 else Cs.twin ((ts.getD k []).getD ((ts.getD k []).length - 1) 0)
theorem endK_len {kd q i : Nat} (hk : (kd = 1 ∧ q = 5) ∨ (kd = 2 ∧ q = 6)) (hi : i < q) : (endK kd q i).length = if kd = 1 then 4 else 3 := by
  rcases hk with ⟨rfl, rfl⟩ | ⟨rfl, rfl⟩
  · have : ∀ i, i < 5 → (endK 1 5 i).length = if 1 = 1 then 4 else 3 := by decide
    exact this i hi
  · have : ∀ i, i < 6 → (endK 2 6 i).length = if 2 = 1 then 4 else 3 := by decide
    exact this i hi
theorem Shows.sig_at (s : Shows es m kd q br ps ts) {i k : Nat} (hk : k ∈ endK kd q i) : ∃ (l : List Nat) (x j : Nat), ts[k]? = some l ∧ l[j]? = some x ∧ sig kd q ts i k < 2 * es.length ∧ (Cs.fr es (sig kd q ts i k) : Int) = gI br i ∧ sig kd q ts i k / 2 = x / 2 := by
  unfold endK at hk
  obtain ⟨h1, h2⟩ := List.mem_filter.1 hk
  have h1 := List.mem_range.1 h1
  obtain ⟨l, hl⟩ : ∃ l, ts[k]? = some l := ⟨_, List.getElem?_eq_getElem (by rw [s.tl, s.pl]; exact h1)⟩
  obtain ⟨c, p, hc, hp, hw, e0, e1, _⟩ := s.path hl
  have ep : (out kd q q).getD k (0, 0) = p := by rw [List.getD_eq_getElem?_getD, hp]; rfl
  have el : ts.getD k [] = l := by rw [List.getD_eq_getElem?_getD, hl]; rfl
  have hlp := List.length_pos_iff.2 hw.ne
  unfold sig
  rw [ep] at h2 ⊢
  rw [el]
  by_cases h : p.1 = i
  · rw [if_pos h]
    obtain ⟨x, hx⟩ : ∃ x, l[0]? = some x := ⟨_, List.getElem?_eq_getElem hlp⟩
    have ex : l.getD 0 0 = x := by rw [List.getD_eq_getElem?_getD, hx]; rfl
    rw [ex]
    obtain ⟨a1, a2, _⟩ := hw.at_ 0 x hx
    exact ⟨l, x, 0, hl, hx, a1, by rw [← h, ← e0, gI_at a2], rfl⟩
  · rw [if_neg h]
    have h3 : p.2 = i := by simpa [h] using h2
    obtain ⟨x, hx⟩ : ∃ x, l[l.length - 1]? = some x := ⟨_, List.getElem?_eq_getElem (by omega)⟩
    have ex : l.getD (l.length - 1) 0 = x := by rw [List.getD_eq_getElem?_getD, hx]; rfl
    rw [ex]
    obtain ⟨a1, _, a2⟩ := hw.at_ _ x hx
    rw [show l.length - 1 + 1 = l.length by omega] at a2
    exact ⟨l, x, _, hl, hx, Cs.twin_lt a1, by rw [Cs.fr_twin, ← h3, ← e1, gI_at a2], twin_half x⟩
theorem Shows.deg_br (s : Shows es m kd q br ps ts) {i v : Nat} (hi : i < q) (hb : gI br i = (v : Int)) : dg es v = if kd = 1 then 4 else 3 := by
  rw [← endK_len s.kdq hi]
  have hnd : (endK kd q i).Nodup := List.Pairwise.filter _ List.nodup_range
  have hsn : ((endK kd q i).map (sig kd q ts i)).Nodup := by
    rw [List.nodup_iff_pairwise_ne, List.pairwise_map]
    refine List.Pairwise.imp_of_mem ?_ (List.nodup_iff_pairwise_ne.1 hnd)
    intro a b ha hb' hab e
    obtain ⟨l, x, j, hl, hx, _, _, e1⟩ := s.sig_at ha
    obtain ⟨l', x', j', hl', hx', _, _, e2⟩ := s.sig_at hb'
    exact hab (flat_pos s.once hl hl' hx hx' (by rw [← e1, ← e2, e])).1
  have hmem : ∀ h, h ∈ Cs.out es v (2 * es.length) ↔ h ∈ (endK kd q i).map (sig kd q ts i) := fun h => by
    rw [mem_out, List.mem_map]
    constructor
    · rintro ⟨hh, hf⟩
      rcases s.half hh with hf' | hf'
      · obtain ⟨k, j, l, hl, hx⟩ := mem_flat hf'
        rcases s.begins hl hx with ⟨rfl, p, hp, h1⟩ | ⟨j', z, rfl, hz, h1, hlt⟩
        · have hpo := out_pairs s.kdq p (List.mem_of_getElem? hp)
          have hpi : p.1 = i := s.br_inj (by omega) hi (by rw [← h1, hf, hb])
          have ep : (out kd q q).getD k (0, 0) = p := by rw [List.getD_eq_getElem?_getD, hp]; rfl
          refine ⟨k, ?_, ?_⟩
          · unfold endK
            rw [List.mem_filter, ep]
            exact ⟨List.mem_range.2 (List.getElem?_eq_some_iff.1 hp).1, by simp [hpi]⟩
          · unfold sig
            rw [ep, if_pos hpi, List.getD_eq_getElem?_getD, List.getD_eq_getElem?_getD, hl]
            show (l[0]?).getD 0 = h
            rw [hx]
            rfl
        · refine absurd ?_ (s.inner_off hl hz hlt)
          rw [h1, hf, ← hb]
          exact s.br_mem hi
      · obtain ⟨k, j, l, hl, hx⟩ := mem_flat hf'
        have ht : Cs.to es (Cs.twin h) = v := by rw [Cs.to_twin, hf]
        rcases s.comes hl hx with ⟨hj, p, hp, h1⟩ | hlt
        · have hpo := out_pairs s.kdq p (List.mem_of_getElem? hp)
          have hpi : p.2 = i := s.br_inj (by omega) hi (by rw [← h1, ht, hb])
          have ep : (out kd q q).getD k (0, 0) = p := by rw [List.getD_eq_getElem?_getD, hp]; rfl
          refine ⟨k, ?_, ?_⟩
          · unfold endK
            rw [List.mem_filter, ep]
            exact ⟨List.mem_range.2 (List.getElem?_eq_some_iff.1 hp).1, by simp [hpi]⟩
          · unfold sig
            have el : ts.getD k [] = l := by rw [List.getD_eq_getElem?_getD, hl]; rfl
            rw [ep, if_neg (by omega), el, List.getD_eq_getElem?_getD, show l.length - 1 = j by omega, hx]
            exact twin_twin h
        · refine absurd ?_ (s.inner_off hl hx hlt)
          rw [ht, ← hb]
          exact s.br_mem hi
    · rintro ⟨k, hk, rfl⟩
      obtain ⟨l, x, j, _, _, h1, h2, _⟩ := s.sig_at hk
      exact ⟨h1, by omega⟩
  unfold dg
  have h1 := List.Nodup.length_le_of_subset (out_nd es v (2 * es.length)) fun h hh => (hmem h).1 hh
  have h2 := List.Nodup.length_le_of_subset hsn fun h hh => (hmem h).2 hh
  rw [List.length_map] at h1 h2
  omega
theorem mem_br {q : Nat} {br : List Int} (hq : br.length = q) {x : Int} (h : x ∈ br) : ∃ i, i < q ∧ gI br i = x := by
  obtain ⟨i, hi⟩ := List.getElem?_of_mem h
  exact ⟨i, by rw [← hq]; exact (List.getElem?_eq_some_iff.1 hi).1, gI_at hi⟩
theorem Shows.brs_iff (s : Shows es m kd q br ps ts) (v : Nat) : v ∈ brs es m ↔ (v : Int) ∈ br := by
  rw [mem_brs]
  constructor
  · rintro ⟨_, h0, h2⟩
    refine Classical.byContradiction fun hc => ?_
    obtain ⟨h, hh⟩ : ∃ h, h ∈ Cs.out es v (2 * es.length) := by
      cases ho : Cs.out es v (2 * es.length) with
      | nil => unfold dg at h0; rw [ho] at h0; exact absurd rfl h0
      | cons a L => exact ⟨a, by simp⟩
    obtain ⟨h3, h4⟩ := mem_out.1 hh
    have key : ∀ {k i x : Nat} {l : List Nat}, ts[k]? = some l → l[i]? = some x → i + 1 < l.length → Cs.to es x = v → False := fun {k i x l} hl hx hlt e => by
      obtain ⟨y, hy⟩ : ∃ y, l[i + 1]? = some y := ⟨_, List.getElem?_eq_getElem hlt⟩
      have hn := s.nxt hl hx hy
      obtain ⟨ho, -⟩ := nxt_some hn
      rw [e] at ho
      apply h2
      unfold dg
      rcases ho with ho | ho <;> rw [ho] <;> rfl
    rcases s.half h3 with hf | hf
    · obtain ⟨k, i, l, hl, hx⟩ := mem_flat hf
      rcases s.begins hl hx with ⟨_, p, hp, h1⟩ | ⟨j, z, rfl, hz, h1, hlt⟩
      · apply hc
        rw [← h4, h1]
        exact s.br_mem (by have := out_pairs s.kdq p (List.mem_of_getElem? hp); omega)
      · exact key hl hz hlt (by rw [h1, h4])
    · obtain ⟨k, i, l, hl, hx⟩ := mem_flat hf
      have ht : Cs.to es (Cs.twin h) = v := by rw [Cs.to_twin, h4]
      rcases s.comes hl hx with ⟨_, p, hp, h1⟩ | hlt
      · apply hc
        rw [← ht, h1]
        exact s.br_mem (out_pairs s.kdq p (List.mem_of_getElem? hp)).2
      · exact key hl hx hlt ht
  · intro h
    obtain ⟨i, hi, e⟩ := mem_br s.brl h
    have hd := s.deg_br hi e
    have hin := s.brin _ h
    refine ⟨by omega, ?_, ?_⟩ <;> rw [hd] <;> split <;> omega
end
end Ku
end Go.Proofs.Ytdhaaodalchpkaa

/-
  Layer 15, pure: a graph that paths make up is what Recognise tells: chains, kinds.
-/
namespace Go.Proofs.Ytdhaaodalchpkaa
open Go.RowKit Go.Sort Go.Maps

namespace Ku
section
variable {es : List (Int × Int)} {m kd q : Nat} {br : List Int} {ps : List (List Int)} {ts : List (List Nat)} {hv : Si.Val (m : Int) es}

theorem Shows.not_two (s : Shows es m kd q br ps ts) {i v : Nat} (hi : i < q) (hb : gI br i = (v : Int)) : dg es v ≠ 2 := by
  rw [s.deg_br hi hb]
  split <;> omega
theorem Shows.opn (s : Shows es m kd q br ps ts) {k : Nat} {l : List Nat} (hl : ts[k]? = some l) : Opn (gs es hv).toSys l := by
  obtain ⟨c, p, hc, hp, hw, h0, h1, h2, h3⟩ := s.path hl
  have hlp := List.length_pos_iff.2 hw.ne
  refine ⟨s.tr hl, hw.ne, fun a ha => ?_, fun a ha => ?_⟩
  · obtain ⟨hl', e1, _⟩ := hw.at_ 0 a ha
    show Ku.nxt es (Cs.twin a) = none
    rw [nxt_none (Cs.twin_lt hl'), Cs.to_twin]
    exact s.not_two (i := p.1) (by omega) (by rw [← h0, gI_at e1])
  · obtain ⟨hl', _, e1⟩ := hw.at_ _ a ha
    show Ku.nxt es a = none
    rw [nxt_none hl']
    rw [show l.length - 1 + 1 = l.length by omega] at e1
    exact s.not_two (i := p.2) h3 (by rw [← h1, gI_at e1])
/-- The chain that a path is. -/
theorem Shows.chain (s : Shows es m kd q br ps ts) {k : Nat} {l : List Nat} (hl : ts[k]? = some l) : ∃ (p : Nat × Nat) (c : List Nat), (out kd q q)[k]? = some p ∧ Cn (gs es hv) c ∧ c ∈ chs es hv es.length ∧ Ku.ends (ZL (vs (gs es hv) c)) = key (gI br p.1, gI br p.2) ∧ ∀ x ∈ l, ch es hv (x / 2) = c := by
  obtain ⟨c0, p, hc, hp, hw, h0, h1, h2, h3⟩ := s.path hl
  have hlp := List.length_pos_iff.2 hw.ne
  have ho := s.opn (hv := hv) hl
  obtain ⟨c, hcn, hvs, hmem⟩ := ho.written (S := gs es hv) (fun x hx => by
    obtain ⟨i, hi⟩ := List.getElem?_of_mem hx
    exact (hw.at_ i x hi).1)
  have hch : ∀ x ∈ l, ch es hv (x / 2) = c := fun x hx => by
    rcases hmem x hx with h | h
    · exact ch_is hcn h rfl
    · exact ch_is hcn h (twin_half x)
  obtain ⟨x, hx⟩ : ∃ x, l[0]? = some x := ⟨_, List.getElem?_eq_getElem hlp⟩
  obtain ⟨xl, e1, _⟩ := hw.at_ 0 x hx
  obtain ⟨y, hy⟩ : ∃ y, l[l.length - 1]? = some y := ⟨_, List.getElem?_eq_getElem (by omega)⟩
  obtain ⟨yl, _, e2⟩ := hw.at_ _ y hy
  rw [show l.length - 1 + 1 = l.length by omega] at e2
  refine ⟨p, c, hp, hcn, ?_, ?_, hch⟩
  · obtain ⟨e0, a1, a2, a3⟩ := first_of (hv := hv) (e := x / 2) (by omega)
    rw [← hch x (List.mem_of_getElem? hx), ch_by (by omega) a3]
    exact mem_chs.2 ⟨e0, by omega, a2, rfl⟩
  · have v0 : at_ (vs (gs es hv) l) 0 = Cs.fr es x := vs_first hx
    have v1 : at_ (vs (gs es hv) l) l.length = Cs.to es y := by
      refine at_some ?_
      have := vs_succ (S := gs es hv) l (l.length - 1)
      rw [show l.length - 1 + 1 = l.length by omega, hy] at this
      rw [this]
      show some ((gs es hv).to y) = _
      rw [gs_to]
    have g0 : gI br p.1 = (Cs.fr es x : Int) := by rw [← h0, gI_at e1]
    have g1 : gI br p.2 = (Cs.to es y : Int) := by rw [← h1, gI_at e2]
    have hne : gI br p.1 ≠ gI br p.2 := fun e => by
      have := s.br_inj (by omega) h3 e
      omega
    have hvl : (vs (gs es hv) l).length = l.length + 1 := vs_length hw.ne
    rw [hvs]
    unfold Ku.ends
    rw [gI_ZL, gI_ZL, ZL_length]
    unfold written
    rw [hvl, show l.length + 1 - 1 = l.length by omega, v0, v1]
    unfold key
    dsimp only
    rw [g0, g1]
    rw [g0, g1] at hne
    by_cases hlt : Cs.to es y < Cs.fr es x
    · rw [if_pos (.inl hlt), if_pos (by omega), List.length_reverse, at_rev (by omega), at_rev (by omega), hvl, show l.length + 1 - 1 - 0 = l.length by omega, show l.length + 1 - 1 - (l.length + 1 - 1) = 0 by omega, v0, v1]
    · rw [if_neg (by omega), if_neg (by omega), hvl, show l.length + 1 - 1 = l.length by omega, v0, v1]
theorem chs_nd (es : List (Int × Int)) {n : Int} (hv : Si.Val n es) : (chs es hv es.length).Nodup := by
  rw [List.nodup_iff_pairwise_ne, List.pairwise_iff_getElem]
  intro i j hi hj hij e
  have h1 := chs_cn (Nat.le_refl _) (List.getElem_mem hi)
  obtain ⟨x, L, ex⟩ := List.exists_cons_of_ne_nil h1.ne
  have hx : x / 2 ∈ ((chs es hv es.length)[i]).map (· / 2) := List.mem_map.2 ⟨x, by rw [ex]; simp, rfl⟩
  exact chains_apart hij (List.getElem?_eq_getElem hi) (List.getElem?_eq_getElem hj) hx (by rw [← e]; exact hx)
/-- As many chains as paths; each chain is one of them. -/
theorem Shows.chs_all (s : Shows es m kd q br ps ts) {c : List Nat} (hc : c ∈ chs es hv es.length) : ∃ (k : Nat) (l : List Nat), ts[k]? = some l ∧ ∀ x ∈ l, ch es hv (x / 2) = c := by
  obtain ⟨e, he, _, rfl⟩ := mem_chs.1 hc
  have hx : ∃ x ∈ ts.flatten, x / 2 = e := by
    rcases s.half (h := 2 * e) (by omega) with h | h
    · exact ⟨_, h, by omega⟩
    · exact ⟨_, h, by rw [twin_half]; omega⟩
  obtain ⟨x, hx, rfl⟩ := hx
  obtain ⟨k, i, l, hl, hi⟩ := mem_flat hx
  obtain ⟨p, c, _, _, _, _, h1⟩ := s.chain (hv := hv) hl
  refine ⟨k, l, hl, fun y hy => ?_⟩
  rw [h1 y hy, h1 x (List.mem_of_getElem? hi)]
theorem Shows.count (s : Shows es m kd q br ps ts) : (rows es hv es.length).length = (out kd q q).length := by
  rw [rows_length, ← s.pl, ← s.tl]
  have hne : ∀ l ∈ ts, l.headD 0 ∈ l := fun l hl => by
    obtain ⟨k, hk⟩ := List.getElem?_of_mem hl
    obtain ⟨c, p, _, _, hw, _⟩ := s.path hk
    obtain ⟨x, L, e⟩ := List.exists_cons_of_ne_nil hw.ne
    rw [e]
    simp
  have h1 : (chs es hv es.length).length ≤ (ts.map fun l => ch es hv (l.headD 0 / 2)).length := List.Nodup.length_le_of_subset (chs_nd es hv) fun c hc => by
    obtain ⟨k, l, hl, h⟩ := s.chs_all hc
    have hm := List.mem_of_getElem? hl
    exact List.mem_map.2 ⟨l, hm, h _ (hne l hm)⟩
  have hnd : (ts.map fun l => ch es hv (l.headD 0 / 2)).Nodup := by
    rw [List.nodup_iff_pairwise_ne, List.pairwise_map, List.pairwise_iff_getElem]
    intro i j hi hj hij e
    obtain ⟨p, c, _, hcn, _, hE, h3⟩ := s.chain (hv := hv) (List.getElem?_eq_getElem hi)
    obtain ⟨p', c', _, hcn', _, hE', h4⟩ := s.chain (hv := hv) (List.getElem?_eq_getElem hj)
    have hm := hne _ (List.getElem_mem hi)
    have hm' := hne _ (List.getElem_mem hj)
    rw [h3 _ hm, h4 _ hm'] at e
    subst e
    rename_i hp hmc hp' hmc'
    rw [hE] at hE'
    have q1 := out_pairs s.kdq p (List.mem_of_getElem? hp)
    have q2 := out_pairs s.kdq p' (List.mem_of_getElem? hp')
    have hk : p = p' := by
      unfold key at hE'
      dsimp only at hE'
      have inj : ∀ {a b : Nat}, a < q → b < q → gI br a = gI br b → a = b := fun ha hb => s.br_inj ha hb
      split at hE' <;> split at hE' <;> injection hE' with g1 g2
      · have := inj (by omega) (by omega) g1; have := inj (by omega) (by omega) g2; exact Prod.ext (by omega) (by omega)
      · have := inj (by omega) (by omega) g1; have := inj (by omega) (by omega) g2; omega
      · have := inj (by omega) (by omega) g1; have := inj (by omega) (by omega) g2; omega
      · have := inj (by omega) (by omega) g1; have := inj (by omega) (by omega) g2; exact Prod.ext (by omega) (by omega)
    subst hk
    have hond : (out kd q q).Nodup := by rcases s.kdq with ⟨rfl, rfl⟩ | ⟨rfl, rfl⟩ <;> decide
    obtain ⟨b1, b2⟩ := List.getElem?_eq_some_iff.1 hp
    obtain ⟨b3, b4⟩ := List.getElem?_eq_some_iff.1 hp'
    have := (List.getElem_inj (h₀ := b1) (h₁ := b3) hond).1 (by rw [b2, b4])
    omega
  have h2 : (ts.map fun l => ch es hv (l.headD 0 / 2)).length ≤ (chs es hv es.length).length := List.Nodup.length_le_of_subset hnd fun c hc => by
    obtain ⟨l, hl, rfl⟩ := List.mem_map.1 hc
    obtain ⟨k, hk⟩ := List.getElem?_of_mem hl
    obtain ⟨p, c, _, _, hm, _, h3⟩ := s.chain (hv := hv) hk
    rw [h3 _ (hne l hl)]
    exact hm
  rw [List.length_map] at h1 h2
  omega
theorem key_swap {a b : Int} : key (a, b) = key (b, a) := by
  unfold key
  dsimp only
  split <;> split <;> first | rfl | omega | (have : a = b := by omega
                                             subst this
                                             rfl)
/-- Who is joined. -/
theorem Shows.joined (s : Shows es m kd q br ps ts) {i j : Nat} (hi : i < q) (hj : j < q) (hij : i ≠ j) (hs : kd = 2 → (i < 3 ↔ 3 ≤ j)) : ∃ t, idx (rows es hv es.length) (gI br i, gI br j) = some t := by
  obtain ⟨a, b, ha, hb, hab, hk⟩ : ∃ a b, (a < q) ∧ b < q ∧ (a, b) ∈ out kd q q ∧ key (gI br a, gI br b) = key (gI br i, gI br j) := by
    by_cases h : i < j
    · exact ⟨i, j, hi, hj, out_has s.kdq hi hj h (fun h2 => by have := hs h2; omega), rfl⟩
    · exact ⟨j, i, hj, hi, out_has s.kdq hj hi (by omega) (fun h2 => by have := hs h2; omega), key_swap⟩
  obtain ⟨k, hk2⟩ := List.getElem?_of_mem hab
  obtain ⟨l, hl⟩ : ∃ l, ts[k]? = some l := ⟨_, List.getElem?_eq_getElem (by rw [s.tl, s.pl]; exact (List.getElem?_eq_some_iff.1 hk2).1)⟩
  obtain ⟨p, c, hp, hcn, hm, hE, _⟩ := s.chain (hv := hv) hl
  rw [hk2] at hp
  cases hp
  have hne : gI br i ≠ gI br j := fun e => hij (s.br_inj hi hj e)
  cases ho : idx (rows es hv es.length) (gI br i, gI br j) with
  | some t => exact ⟨t, rfl⟩
  | none =>
    exfalso
    obtain ⟨t, ht⟩ := List.getElem?_of_mem hm
    have hr : (rows es hv es.length)[t]? = some (ZL (vs (gs es hv) c)) := by
      unfold rows
      rw [List.getElem?_map, ht]
      rfl
    exact opn_none (Nat.le_refl _) ho (key_ne2 hne) t _ (List.getElem?_eq_some_iff.1 hr).1 hr (by rw [hE]; exact hk)
theorem Shows.not_joined (s : Shows es m 2 q br ps ts) {i j : Nat} (hi : i < q) (hj : j < q) (hs : i < 3 ↔ j < 3) : idx (rows es hv es.length) (gI br i, gI br j) = none := by
  cases ho : idx (rows es hv es.length) (gI br i, gI br j) with
  | none => rfl
  | some t =>
    exfalso
    obtain ⟨r, hr, hE, hne⟩ := idx_at ho
    obtain ⟨c, hc, rfl⟩ := rows_at hr
    obtain ⟨k, l, hl, h1⟩ := s.chs_all (List.mem_of_getElem? hc)
    obtain ⟨p, c', hp, hcn, hm, hE', h2⟩ := s.chain (hv := hv) hl
    obtain ⟨_, _, _, _, hw, _⟩ := s.path hl
    obtain ⟨x, L, e⟩ := List.exists_cons_of_ne_nil hw.ne
    have hcc : c = c' := by rw [← h1 x (by rw [e]; simp), h2 x (by rw [e]; simp)]
    subst hcc
    rw [hE'] at hE
    have q6 : q = 6 := by rcases s.kdq with h | h <;> omega
    subst q6
    have q1 := out_side p (List.mem_of_getElem? hp)
    have q2 := out_pairs s.kdq p (List.mem_of_getElem? hp)
    have inj : ∀ {a b : Nat}, a < 6 → b < 6 → gI br a = gI br b → a = b := fun ha hb => s.br_inj ha hb
    unfold key at hE
    dsimp only at hE
    split at hE <;> split at hE <;> injection hE with g1 g2
    · have := inj (by omega) (by omega) g1; have := inj (by omega) (by omega) g2; omega
    · have := inj (by omega) (by omega) g1; have := inj (by omega) (by omega) g2; omega
    · have := inj (by omega) (by omega) g1; have := inj (by omega) (by omega) g2; omega
    · have := inj (by omega) (by omega) g1; have := inj (by omega) (by omega) g2; omega
theorem Shows.brs_perm (s : Shows es m kd q br ps ts) : (ZL (brs es m)).length = q ∧ (∀ x, x ∈ ZL (brs es m) ↔ x ∈ br) := by
  have hmem : ∀ x, x ∈ ZL (brs es m) ↔ x ∈ br := fun x => by
    unfold ZL
    rw [List.mem_map]
    constructor
    · rintro ⟨v, hv', rfl⟩
      exact (s.brs_iff v).1 hv'
    · intro h
      obtain ⟨v, rfl⟩ : ∃ v : Nat, x = (v : Int) := ⟨x.toNat, by have := s.brin x h; omega⟩
      exact ⟨v, (s.brs_iff v).2 h, rfl⟩
  have hnd : (ZL (brs es m)).Nodup := by
    rw [List.nodup_iff_pairwise_ne]
    exact (ZL_up (brs_up es m)).imp (by intro a b h; omega)
  have h1 := List.Nodup.length_le_of_subset hnd fun x hx => (hmem x).1 hx
  have h2 := List.Nodup.length_le_of_subset s.brnd fun x hx => (hmem x).2 hx
  have h3 := s.brl
  exact ⟨by omega, hmem⟩
/-- What paths make up is told, and its kind. -/
theorem shows_rec (s : Shows es m kd q br ps ts) : ∃ br' ps', recA (rows es hv es.length) es m = some ((kd : Int), br', ps') := by
  obtain ⟨hlen, hmem⟩ := s.brs_perm
  have hdeg : ∀ v ∈ brs es m, dg es v = if kd = 1 then 4 else 3 := fun v hb => by
    obtain ⟨i, hi, e⟩ := mem_br s.brl ((s.brs_iff v).1 hb)
    exact s.deg_br hi e
  have hup := ZL_up (brs_up es m)
  have hat : ∀ i, i < q → ∃ a, a < q ∧ gI br a = gI (ZL (brs es m)) i := fun i hi => by
    have h1 : (ZL (brs es m))[i]? = some ((ZL (brs es m))[i]'(by omega)) := List.getElem?_eq_getElem _
    rw [gI_at h1]
    exact mem_br s.brl ((hmem _).1 (List.getElem_mem _))
  rw [ZL_length] at hlen
  have hcnt := s.count (hv := hv)
  rcases s.kdq with ⟨rfl, rfl⟩ | ⟨rfl, rfl⟩
  · have hprs : pout (ZL (brs es m)) 5 = (out 1 5 5).map fun p => (gI (ZL (brs es m)) p.1, gI (ZL (brs es m)) p.2) := by
      obtain ⟨a, b, c, d, e, hf⟩ := five_form (L := ZL (brs es m)) (by rw [ZL_length]; exact hlen)
      rw [hf, out1]
      rfl
    have hA : All (rows es hv es.length) (pout (ZL (brs es m)) 5) := by
      refine ⟨by rw [hcnt, hprs, List.length_map], fun p hp => ?_⟩
      rw [hprs] at hp
      obtain ⟨⟨i, j⟩, hij, rfl⟩ := List.mem_map.1 hp
      have h1 := out_pairs (.inl ⟨rfl, rfl⟩) _ hij
      dsimp only at h1 ⊢
      obtain ⟨a, ha, ea⟩ := hat i (by omega)
      obtain ⟨b, hb, eb⟩ := hat j (by omega)
      rw [← ea, ← eb]
      refine s.joined ha hb (fun e => ?_) (fun h => by omega)
      subst e
      have := gI_up hup h1.1 (by rw [ZL_length]; omega)
      omega
    refine ⟨ZL (brs es m), (pout (ZL (brs es m)) 5).map (pathOf (rows es hv es.length)), ?_⟩
    rw [recA_5 hlen (fun v hb => hdeg v hb)]
    unfold kur
    rw [if_pos hA]
    rfl
  · have hn := nf_length (rows es hv es.length) (ZL (brs es m)) 6
    have uN := nearK_up (R := rows es hv es.length) hup (k := 6) (by rw [ZL_length]; omega)
    have uF := farK_up (R := rows es hv es.length) hup (k := 6) (by rw [ZL_length]; omega)
    obtain ⟨a0, ha0, ea0⟩ := hat 0 (by omega)
    have hj : ∀ i a, i < 6 → a < 6 → gI br a = gI (ZL (brs es m)) i → (jnd (rows es hv es.length) (ZL (brs es m)) i = true ↔ ¬ (a0 < 3 ↔ a < 3)) := fun i a hi ha ea => by
      by_cases i0 : i = 0
      · subst i0
        obtain rfl : a = a0 := s.br_inj ha ha0 (by rw [ea, ea0])
        rw [jnd_zero]
        simp
      · have hlt : gI br a0 < gI br a := by
          rw [ea, ea0]
          exact gI_up hup (by omega) (by rw [ZL_length]; omega)
        have hkey : key (gI br a0, gI br a) = (gI br a0, gI br a) := key_lt hlt
        unfold jnd
        rw [← ea0, ← ea]
        have hid : idx (rows es hv es.length) (gI br a0, gI br a) = opn (rows es hv es.length) (rows es hv es.length).length (gI br a0, gI br a) := by
          unfold idx
          rw [hkey]
        rw [← hid]
        by_cases hs : a0 < 3 ↔ a < 3
        · rw [s.not_joined ha0 ha hs]
          simp [hs]
        · obtain ⟨t, ht⟩ := s.joined (hv := hv) ha0 ha (fun e => by subst e; omega) (fun _ => by omega)
          rw [ht]
          simp [hs]
    have hside : ∀ x ∈ nearK (rows es hv es.length) (ZL (brs es m)) 6, ∃ a, a < 6 ∧ gI br a = x ∧ (a0 < 3 ↔ a < 3) := fun x hx => by
      obtain ⟨i, hi, rfl, h1⟩ := mem_nearK hx
      obtain ⟨a, ha, ea⟩ := hat i hi
      refine ⟨a, ha, ea, Classical.byContradiction fun hc => ?_⟩
      have := (hj i a hi ha ea).2 hc
      rw [h1] at this
      cases this
    have hside' : ∀ x ∈ farK (rows es hv es.length) (ZL (brs es m)) 6, ∃ a, a < 6 ∧ gI br a = x ∧ ¬ (a0 < 3 ↔ a < 3) := fun x hx => by
      obtain ⟨i, hi, rfl, h1⟩ := mem_farK hx
      obtain ⟨a, ha, ea⟩ := hat i hi
      exact ⟨a, ha, ea, (hj i a hi ha ea).1 h1⟩
    have three : ∀ {L : List Int} (P : Nat → Prop), L.Pairwise (· < ·) → (∃ f : List Nat, f.length = 3 ∧ ∀ a, a < 6 → P a → a ∈ f) → (∀ x ∈ L, ∃ a, a < 6 ∧ gI br a = x ∧ P a) → L.length ≤ 3 := fun {L} P hL ⟨f, hf, hfa⟩ hx => by
      have hnd : L.Nodup := by
        rw [List.nodup_iff_pairwise_ne]
        exact hL.imp (by intro a b h; omega)
      have := List.Nodup.length_le_of_subset (l₂ := f.map (gI br)) hnd fun x hxm => by
        obtain ⟨a, ha, rfl, hp⟩ := hx x hxm
        exact List.mem_map.2 ⟨a, hfa a ha hp, rfl⟩
      rw [List.length_map, hf] at this
      exact this
    have lo : ∃ f : List Nat, f.length = 3 ∧ ∀ a, a < 6 → a < 3 → a ∈ f := ⟨[0, 1, 2], rfl, fun a _ h => by simp; omega⟩
    have hi' : ∃ f : List Nat, f.length = 3 ∧ ∀ a, a < 6 → ¬ a < 3 → a ∈ f := ⟨[3, 4, 5], rfl, fun a h1 h => by simp; omega⟩
    have h3 : (nearK (rows es hv es.length) (ZL (brs es m)) 6).length = 3 := by
      by_cases hc : a0 < 3
      · have g1 := three (fun a => a < 3) uN lo fun x hx => by
          obtain ⟨a, h1, h2, h3⟩ := hside x hx
          exact ⟨a, h1, h2, h3.1 hc⟩
        have g2 := three (fun a => ¬ a < 3) uF hi' fun x hx => by
          obtain ⟨a, h1, h2, h3⟩ := hside' x hx
          exact ⟨a, h1, h2, fun h => h3 ⟨fun _ => h, fun _ => hc⟩⟩
        omega
      · have g1 := three (fun a => ¬ a < 3) uN hi' fun x hx => by
          obtain ⟨a, h1, h2, h3⟩ := hside x hx
          exact ⟨a, h1, h2, fun h => hc (h3.2 h)⟩
        have g2 := three (fun a => a < 3) uF lo fun x hx => by
          obtain ⟨a, h1, h2, h3⟩ := hside' x hx
          exact ⟨a, h1, h2, Classical.byContradiction fun h => h3 ⟨fun h' => absurd h' hc, fun h' => absurd h' h⟩⟩
        omega
    have hA : All (rows es hv es.length) (cout (nearK (rows es hv es.length) (ZL (brs es m)) 6) (farK (rows es hv es.length) (ZL (brs es m)) 6) 3) := by
      have hjn : ∀ x ∈ nearK (rows es hv es.length) (ZL (brs es m)) 6, ∀ y ∈ farK (rows es hv es.length) (ZL (brs es m)) 6, ∃ t, idx (rows es hv es.length) (x, y) = some t := fun x hx y hy => by
        obtain ⟨a, h1, rfl, h2⟩ := hside x hx
        obtain ⟨b, h4, rfl, h5⟩ := hside' y hy
        exact s.joined h1 h4 (fun e => by subst e; exact h5 h2) (fun _ => by omega)
      rw [show (out 2 6 6).length = 9 from by decide] at hcnt
      generalize nearK (rows es hv es.length) (ZL (brs es m)) 6 = N at *
      generalize farK (rows es hv es.length) (ZL (brs es m)) 6 = F at *
      obtain ⟨a, b, c, rfl⟩ := three_form h3
      obtain ⟨x, y, z, rfl⟩ := three_form (L := F) (by simp at hn; omega)
      refine ⟨by rw [hcnt, cout3]; rfl, fun p hp => ?_⟩
      rw [cout3] at hp
      simp only [List.mem_cons, List.not_mem_nil, or_false] at hp
      rcases hp with rfl | rfl | rfl | rfl | rfl | rfl | rfl | rfl | rfl <;> exact hjn _ (by simp) _ (by simp)
    refine ⟨nearK (rows es hv es.length) (ZL (brs es m)) 6 ++ farK (rows es hv es.length) (ZL (brs es m)) 6, (cout (nearK (rows es hv es.length) (ZL (brs es m)) 6) (farK (rows es hv es.length) (ZL (brs es m)) 6) 3).map (pathOf (rows es hv es.length)), ?_⟩
    rw [recA_6 hlen (fun v hb => hdeg v hb) h3]
    unfold kur
    rw [if_pos hA]
    rfl
end
end Ku
end Go.Proofs.Ytdhaaodalchpkaa

/-
  Layer 15, pure: K5 and K3,3 divided as the law divides them: the paths.
-/
namespace Go.Proofs.Ytdhaaodalchpkaa

namespace Ku
/-- What stands side by side. -/
def cons2 : List Nat → List (Nat × Nat)
  | x :: y :: l => (x, y) :: cons2 (y :: l)
  | _ => []
def inl (l : List Nat) : List Nat := l.tail.dropLast
def en (l : List Nat) : Nat × Nat := (l.headD 0, l.getLastD 0)
theorem cons2_split : ∀ (A : List Nat) (a b : Nat) (B : List Nat), cons2 (A ++ a :: b :: B) = cons2 (A ++ [a]) ++ (a, b) :: cons2 (b :: B)
  | [], _, _, _ => rfl
  | [_], _, _, _ => rfl
  | x :: y :: A, a, b, B => by
    show (x, y) :: cons2 ((y :: A) ++ a :: b :: B) = (x, y) :: (cons2 ((y :: A) ++ [a]) ++ (a, b) :: cons2 (b :: B))
    rw [cons2_split (y :: A) a b B]
theorem mem_cons2 {a b : Nat} : ∀ {l : List Nat}, (a, b) ∈ cons2 l → ∃ A B, l = A ++ a :: b :: B
  | [], h => by simp [cons2] at h
  | [_], h => by simp [cons2] at h
  | x :: y :: l, h => by
    rcases List.mem_cons.1 h with h | h
    · cases h
      exact ⟨[], l, rfl⟩
    · obtain ⟨A, B, e⟩ := mem_cons2 h
      exact ⟨x :: A, B, by rw [e]; rfl⟩
theorem cons2_len : ∀ l : List Nat, (cons2 l).length = l.length - 1
  | [] => rfl
  | [_] => rfl
  | x :: y :: l => by
    show (cons2 (y :: l)).length + 1 = _
    rw [cons2_len (y :: l)]
    simp
theorem cons2_at : ∀ {l : List Nat} {i : Nat} {p : Nat × Nat}, (cons2 l)[i]? = some p → l[i]? = some p.1 ∧ l[i + 1]? = some p.2
  | [], _, _, h => by simp [cons2] at h
  | [_], _, _, h => by simp [cons2] at h
  | x :: y :: l, 0, p, h => by
    have : p = (x, y) := by simpa [cons2] using h.symm
    subst this
    exact ⟨rfl, rfl⟩
  | x :: y :: l, i + 1, p, h => by
    have := cons2_at (l := y :: l) (i := i) (p := p) (by simpa [cons2] using h)
    exact ⟨by simpa using this.1, by simpa using this.2⟩
theorem inl_split (A : List Nat) (a b : Nat) (B : List Nat) (n : Nat) : ∃ X Y, inl (A ++ a :: b :: B) = X ++ Y ∧ inl (A ++ a :: n :: b :: B) = X ++ n :: Y := by
  cases A with
  | nil => exact ⟨[], (b :: B).dropLast, rfl, rfl⟩
  | cons x A =>
    refine ⟨A ++ [a], (b :: B).dropLast, ?_, ?_⟩
    · show (A ++ a :: b :: B).dropLast = _
      rw [List.dropLast_append_of_ne_nil (by simp), List.append_assoc]
      rfl
    · show (A ++ a :: n :: b :: B).dropLast = _
      rw [List.dropLast_append_of_ne_nil (by simp), List.append_assoc]
      rfl
theorem en_split (A : List Nat) (a b : Nat) (B : List Nat) (n : Nat) : en (A ++ a :: n :: b :: B) = en (A ++ a :: b :: B) := by
  unfold en
  refine Prod.ext ?_ ?_
  · cases A <;> rfl
  · simp [List.getLastD_eq_getLast?]

/-- The pairs prs are base divided; P are its paths. -/
structure Div (q n : Nat) (base prs : List (Nat × Nat)) (P : List (List Nat)) : Prop where
  two : ∀ l ∈ P, 2 ≤ l.length
  ends : P.map en = base
  perm : prs.Perm (P.map cons2).flatten
  innd : (P.map inl).flatten.Nodup
  inlo : ∀ v ∈ (P.map inl).flatten, q ≤ v ∧ v < n
  lt : ∀ p ∈ prs, p.1 < n ∧ p.2 < n
  ne : ∀ p ∈ prs, p.1 ≠ p.2
  apart : prs.Pairwise fun a b => ¬ (a = b ∨ a = (b.2, b.1))
theorem Div.start5 : Div 5 5 (out 1 5 5) (out 1 5 5) ((out 1 5 5).map fun p => [p.1, p.2]) := by
  rw [out1]
  exact ⟨by decide, by decide, List.Perm.refl _, by decide, by decide, by decide, by decide, by decide⟩
theorem Div.start6 : Div 6 6 (out 2 6 6) (out 2 6 6) ((out 2 6 6).map fun p => [p.1, p.2]) := by
  rw [out2]
  exact ⟨by decide, by decide, List.Perm.refl _, by decide, by decide, by decide, by decide, by decide⟩
theorem perm_erase {α : Type} {l : List α} {k : Nat} {x : α} (h : l[k]? = some x) (y : α) : l.Perm (x :: l.eraseIdx k) ∧ (l.set k y).Perm (y :: l.eraseIdx k) := by
  obtain ⟨hk, e⟩ := List.getElem?_eq_some_iff.1 h
  rw [List.eraseIdx_eq_take_drop_succ, List.set_eq_take_append_cons_drop, if_pos hk]
  refine ⟨?_, List.perm_middle⟩
  have e2 : l = l.take k ++ x :: l.drop (k + 1) := by rw [← e, ← List.drop_eq_getElem_cons hk, List.take_append_drop]
  exact (List.Perm.of_eq e2).trans List.perm_middle
theorem apart_symm {a b : Nat × Nat} (h : ¬ (a = b ∨ a = (b.2, b.1))) : ¬ (b = a ∨ b = (a.2, a.1)) := by
  rintro (rfl | h2)
  · exact h (.inl rfl)
  · exact h (.inr (by rw [h2]))
theorem Div.step {q n : Nat} {base prs : List (Nat × Nat)} {P : List (List Nat)} (h : Div q n base prs P) (hq : q ≤ n) {k a b : Nat} (hk : prs[k]? = some (a, b)) : ∃ P', Div q (n + 1) base ((prs ++ [(n, b)]).set k (a, n)) P' := by
  have hkl := (List.getElem?_eq_some_iff.1 hk).1
  have hm := List.mem_of_getElem? hk
  obtain ⟨l0, hl0, hab⟩ := List.mem_flatten.1 (h.perm.mem_iff.1 hm)
  obtain ⟨l, hl, rfl⟩ := List.mem_map.1 hl0
  obtain ⟨A, B, rfl⟩ := mem_cons2 hab
  obtain ⟨P1, P2, rfl⟩ := List.append_of_mem hl
  obtain ⟨X, Y, e1, e2⟩ := inl_split A a b B n
  obtain ⟨p1, p2⟩ := perm_erase hk (a, n)
  have hset : (prs ++ [(n, b)]).set k (a, n) = prs.set k (a, n) ++ [(n, b)] := by rw [List.set_append_left _ _ hkl]
  have pp : ((prs ++ [(n, b)]).set k (a, n)).Perm ((a, n) :: (n, b) :: prs.eraseIdx k) := by
    rw [hset]
    exact (p2.append_right [(n, b)]).trans (by
      rw [List.cons_append]
      exact List.Perm.cons _ (List.perm_append_comm.trans (by simp)))
  have hlt := h.lt _ hm
  have hne := h.ne _ hm
  have hpi : ((P1 ++ (A ++ a :: n :: b :: B) :: P2).map inl).flatten.Perm (n :: ((P1 ++ (A ++ a :: b :: B) :: P2).map inl).flatten) := by
    simp only [List.map_append, List.map_cons, List.flatten_append, List.flatten_cons, e1, e2]
    rw [List.perm_iff_count]
    intro x
    simp only [List.count_append, List.count_cons]
    omega
  have her : ∀ p ∈ prs.eraseIdx k, p ∈ prs := fun p hp => List.mem_of_mem_eraseIdx hp
  refine ⟨P1 ++ (A ++ a :: n :: b :: B) :: P2, ?_, ?_, ?_, ?_, ?_, ?_, ?_, ?_⟩
  · intro l hl'
    rcases List.mem_append.1 hl' with h1 | h1
    · exact h.two l (List.mem_append.2 (.inl h1))
    · rcases List.mem_cons.1 h1 with rfl | h1
      · simp
        omega
      · exact h.two l (List.mem_append.2 (.inr (List.mem_cons_of_mem _ h1)))
  · rw [← h.ends]
    simp only [List.map_append, List.map_cons, en_split]
  · refine pp.trans ?_
    have h1 := p1.symm.trans h.perm
    simp only [List.map_append, List.map_cons, List.flatten_append, List.flatten_cons] at h1 ⊢
    rw [cons2_split A a b B] at h1
    rw [cons2_split A a n (b :: B)]
    rw [show cons2 (n :: b :: B) = (n, b) :: cons2 (b :: B) from rfl]
    rw [List.perm_iff_count] at h1 ⊢
    intro x
    have h2 := h1 x
    simp only [List.count_append, List.count_cons] at h2 ⊢
    omega
  · rw [hpi.nodup_iff, List.nodup_cons]
    exact ⟨fun hc => by have := (h.inlo n hc).2; omega, h.innd⟩
  · intro v hv
    rcases List.mem_cons.1 (hpi.mem_iff.1 hv) with rfl | hv
    · omega
    · have := h.inlo v hv
      omega
  · intro p hp
    rcases List.mem_cons.1 (pp.mem_iff.1 hp) with rfl | hp
    · dsimp only at hlt ⊢
      omega
    · rcases List.mem_cons.1 hp with rfl | hp
      · dsimp only at hlt ⊢
        omega
      · have := h.lt p (her p hp)
        omega
  · intro p hp
    rcases List.mem_cons.1 (pp.mem_iff.1 hp) with rfl | hp
    · dsimp only at hlt ⊢
      omega
    · rcases List.mem_cons.1 hp with rfl | hp
      · dsimp only at hlt ⊢
        omega
      · exact h.ne p (her p hp)
  · rw [pp.pairwise_iff (fun h => apart_symm h)]
    have hnew : ∀ p ∈ prs.eraseIdx k, p.1 < n ∧ p.2 < n := fun p hp => h.lt p (her p hp)
    refine List.pairwise_cons.2 ⟨fun p hp => ?_, List.pairwise_cons.2 ⟨fun p hp => ?_, h.apart.sublist (List.eraseIdx_sublist ..)⟩⟩
    · rcases List.mem_cons.1 hp with rfl | hp
      · dsimp only at hlt hne
        rintro (e | e) <;> injection e with g1 g2 <;> omega
      · have := hnew p hp
        rintro (e | e)
        · rw [← e] at this
          dsimp only at this
          omega
        · injection e with g1 g2
          omega
    · have := hnew p hp
      rintro (e | e)
      · rw [← e] at this
        dsimp only at this
        omega
      · injection e with g1 g2
        omega
end Ku
end Go.Proofs.Ytdhaaodalchpkaa

/-
  Layer 15, pure: the graph that divided pairs make under other names is what its paths make up.
-/
namespace Go.Proofs.Ytdhaaodalchpkaa
open Go.RowKit Go.Sort Go.Maps

namespace Ku
/-- A pair under other names. -/
def zp (f : Nat → Nat) (p : Nat × Nat) : Int × Int := ((f p.1 : Int), (f p.2 : Int))
/-- The half-edge from x to y. -/
def hOf (es : List (Int × Int)) (x y : Nat) : Nat := if x < y then 2 * es.idxOf ((x : Int), (y : Int)) else 2 * es.idxOf ((y : Int), (x : Int)) + 1

section
variable {q n m kd : Nat} {base prs : List (Nat × Nat)} {P : List (List Nat)} {f : Nat → Nat} {es : List (Int × Int)}

theorem norm_zp (p : Nat × Nat) : Si.norm (zp f p) = if f p.1 < f p.2 then ((f p.1 : Int), (f p.2 : Int)) else ((f p.2 : Int), (f p.1 : Int)) := by
  unfold Si.norm zp
  split
  · exact Prod.ext (by dsimp only; omega) (by dsimp only; omega)
  · exact Prod.ext (by dsimp only; omega) (by dsimp only; omega)
theorem hOf_at {x y : Nat} (hm : (if x < y then ((x : Int), (y : Int)) else ((y : Int), (x : Int))) ∈ es) : hOf es x y < 2 * es.length ∧ Cs.fr es (hOf es x y) = x ∧ Cs.to es (hOf es x y) = y ∧ es[hOf es x y / 2]? = some (if x < y then ((x : Int), (y : Int)) else ((y : Int), (x : Int))) := by
  unfold hOf
  by_cases h : x < y
  · rw [if_pos h] at hm ⊢
    rw [if_pos h]
    have h1 := List.idxOf_lt_length_of_mem hm
    have h2 : es[es.idxOf ((x : Int), (y : Int))]? = some ((x : Int), (y : Int)) := by rw [List.getElem?_eq_getElem h1, List.getElem_idxOf]
    obtain ⟨a1, a2⟩ := Cs.fr_even h2
    refine ⟨by omega, by rw [a1]; simp, by rw [a2]; simp, ?_⟩
    rw [show 2 * es.idxOf ((x : Int), (y : Int)) / 2 = es.idxOf ((x : Int), (y : Int)) by omega]
    exact h2
  · rw [if_neg h] at hm ⊢
    rw [if_neg h]
    have h1 := List.idxOf_lt_length_of_mem hm
    have h2 : es[es.idxOf ((y : Int), (x : Int))]? = some ((y : Int), (x : Int)) := by rw [List.getElem?_eq_getElem h1, List.getElem_idxOf]
    obtain ⟨a1, a2⟩ := Cs.fr_odd h2
    refine ⟨by omega, by rw [a1]; simp, by rw [a2]; simp, ?_⟩
    rw [show (2 * es.idxOf ((y : Int), (x : Int)) + 1) / 2 = es.idxOf ((y : Int), (x : Int)) by omega]
    exact h2

/-- The path's half-edges. -/
def trl (es : List (Int × Int)) (f : Nat → Nat) (l : List Nat) : List Nat := (cons2 l).map fun p => hOf es (f p.1) (f p.2)
theorem trl_len (l : List Nat) : (trl es f l).length = l.length - 1 := by
  unfold trl
  rw [List.length_map, cons2_len]
theorem trl_inn {l : List Nat} (h : ∀ p ∈ cons2 l, Cs.to es (hOf es (f p.1) (f p.2)) = f p.2) : innV es (trl es f l) = (inl l).map f := by
  refine List.ext_getElem? fun i => ?_
  have hl : (inl l).length = l.length - 1 - 1 := by unfold inl; simp
  by_cases hi : i < l.length - 1 - 1
  · obtain ⟨p, hp⟩ : ∃ p, (cons2 l)[i]? = some p := ⟨_, List.getElem?_eq_getElem (by rw [cons2_len]; omega)⟩
    have h1 : (trl es f l)[i]? = some (hOf es (f p.1) (f p.2)) := by
      unfold trl
      rw [List.getElem?_map, hp]
      rfl
    rw [inn_at h1 (by rw [trl_len]; omega), h p (List.mem_of_getElem? hp), List.getElem?_map]
    have h2 : (inl l)[i]? = some p.2 := by
      unfold inl
      rw [List.getElem?_dropLast, if_pos (by simp; omega), List.getElem?_tail]
      exact (cons2_at hp).2
    rw [h2]
    rfl
  · rw [List.getElem?_eq_none (by rw [inn_len, trl_len]; omega), List.getElem?_eq_none (by rw [List.length_map, hl]; omega)]

theorem div_shows (hk : (kd = 1 ∧ q = 5) ∨ (kd = 2 ∧ q = 6)) (h : Div q n (out kd q q) prs P) (hqn : q ≤ n) (hf : ∀ a b, a < n → b < n → f a = f b → a = b) (hfm : ∀ a, a < n → f a < m) (hm : m ≤ 1048576) (hl : prs.length ≤ 4194304) :
    Si.Val (m : Int) (Si.made [] (prs.map (zp f))) ∧ Shows (Si.made [] (prs.map (zp f))) m kd q ((List.range q).map fun v => (f v : Int)) (P.map fun l => l.map fun v => (f v : Int)) (P.map (trl (Si.made [] (prs.map (zp f))) f)) ∧ (Si.made [] (prs.map (zp f))).length = prs.length := by
  obtain ⟨es, hes⟩ : ∃ es, Si.made [] (prs.map (zp f)) = es := ⟨_, rfl⟩
  have hsort : es.Pairwise Si.lt := by rw [← hes]; exact Si.made_sorted _
  have hfne : ∀ p ∈ prs, f p.1 ≠ f p.2 := fun p hp e => by
    have := h.lt p hp
    exact h.ne p hp (hf _ _ this.1 this.2 e)
  have hmem : ∀ e, e ∈ es ↔ ∃ p ∈ prs, e = Si.norm (zp f p) := fun e => by
    rw [← hes, (Si.made_is (prs.map (zp f)) [] List.Pairwise.nil).2]
    constructor
    · rintro (h1 | ⟨r, hr, _, rfl⟩)
      · simp at h1
      · obtain ⟨p, hp, rfl⟩ := List.mem_map.1 hr
        exact ⟨p, hp, rfl⟩
    · rintro ⟨p, hp, rfl⟩
      refine .inr ⟨zp f p, List.mem_map.2 ⟨p, hp, rfl⟩, ?_, rfl⟩
      have := hfne p hp
      unfold zp
      dsimp only
      omega
  have hnd : es.Nodup := by
    rw [List.nodup_iff_pairwise_ne]
    exact hsort.imp (by
      intro a b h1 e
      subst e
      unfold Si.lt at h1
      omega)
  have hnorm : ∀ p ∈ prs, ∀ r ∈ prs, Si.norm (zp f p) = Si.norm (zp f r) → p = r ∨ p = (r.2, r.1) := fun p hp r hr e => by
    have a1 := h.lt p hp
    have a2 := h.lt r hr
    have b1 := hfne p hp
    have b2 := hfne r hr
    rw [norm_zp, norm_zp] at e
    split at e <;> split at e <;> injection e with g1 g2
    · exact .inl (Prod.ext (hf p.1 r.1 a1.1 a2.1 (by omega)) (hf p.2 r.2 a1.2 a2.2 (by omega)))
    · exact .inr (Prod.ext (hf p.1 r.2 a1.1 a2.2 (by omega)) (hf p.2 r.1 a1.2 a2.1 (by omega)))
    · exact .inr (Prod.ext (hf p.1 r.2 a1.1 a2.2 (by omega)) (hf p.2 r.1 a1.2 a2.1 (by omega)))
    · exact .inl (Prod.ext (hf p.1 r.1 a1.1 a2.1 (by omega)) (hf p.2 r.2 a1.2 a2.2 (by omega)))
  have hnn : (prs.map fun p => Si.norm (zp f p)).Nodup := by
    rw [List.nodup_iff_pairwise_ne, List.pairwise_map]
    exact h.apart.imp_of_mem fun hp hr hap e => hap (hnorm _ hp _ hr e)
  have hlen : es.length = prs.length := by
    have h1 := List.Nodup.length_le_of_subset (l₂ := prs.map fun p => Si.norm (zp f p)) hnd fun e he => by
      obtain ⟨p, hp, rfl⟩ := (hmem e).1 he
      exact List.mem_map.2 ⟨p, hp, rfl⟩
    have h2 := List.Nodup.length_le_of_subset hnn fun e he => by
      obtain ⟨p, hp, rfl⟩ := List.mem_map.1 he
      exact (hmem _).2 ⟨p, hp, rfl⟩
    rw [List.length_map] at h1 h2
    omega
  have hv : Si.Val (m : Int) es := by
    rw [← hes]
    refine Si.made_val (by omega) (by omega) (fun j p hp => ?_) (by rw [hes]; omega)
    obtain ⟨r, hr, rfl⟩ := List.mem_map.1 (List.mem_of_getElem? hp)
    have a1 := h.lt r hr
    have a2 := hfm _ a1.1
    have a3 := hfm _ a1.2
    unfold zp
    dsimp only
    omega
  -- a step along a path
  have hstep : ∀ p ∈ prs, hOf es (f p.1) (f p.2) < 2 * es.length ∧ Cs.fr es (hOf es (f p.1) (f p.2)) = f p.1 ∧ Cs.to es (hOf es (f p.1) (f p.2)) = f p.2 ∧ es[hOf es (f p.1) (f p.2) / 2]? = some (Si.norm (zp f p)) := fun p hp => by
    have h1 := hOf_at (es := es) (by rw [← norm_zp]; exact (hmem _).2 ⟨p, hp, rfl⟩)
    rw [← norm_zp] at h1
    exact h1
  have hcp : ∀ l ∈ P, ∀ p ∈ cons2 l, p ∈ prs := fun l hl p hp => h.perm.mem_iff.2 (List.mem_flatten.2 ⟨_, List.mem_map.2 ⟨l, hl, rfl⟩, hp⟩)
  have hts : (P.map (trl es f)).flatten = ((P.map cons2).flatten).map fun p => hOf es (f p.1) (f p.2) := by
    rw [List.map_flatten, List.map_map]
    rfl
  have hinn : ((P.map (trl es f)).map (innV es)).flatten = ((P.map inl).flatten).map f := by
    rw [List.map_flatten, List.map_map, List.map_map]
    congr 1
    refine List.map_congr_left fun l hl => ?_
    exact trl_inn fun p hp => (hstep p (hcp l hl p hp)).2.2.1
  have hvin : ∀ l ∈ P, ∀ (i : Nat) (p : Nat × Nat), (cons2 l)[i]? = some p → p ∈ prs := fun l hl i p hp => hcp l hl p (List.mem_of_getElem? hp)
  have hbr : ∀ v, v < q → gI ((List.range q).map fun v => (f v : Int)) v = (f v : Int) := fun v hv => gI_at (by rw [List.getElem?_map, List.getElem?_range hv]; rfl)
  rw [hes]
  refine ⟨hv, ⟨hk, by simp, ?_, ?_, ?_, by simp, ?_, ?_, ?_, ?_, ?_, ?_⟩, hlen⟩
  · intro b hb
    obtain ⟨v, hv', rfl⟩ := List.mem_map.1 hb
    have := hfm v (by have := List.mem_range.1 hv'; omega)
    omega
  · rw [List.nodup_iff_pairwise_ne, List.pairwise_map]
    refine (List.nodup_iff_pairwise_ne.1 (List.nodup_range (n := q))).imp_of_mem ?_
    intro a b ha hb hab e
    have h1 := List.mem_range.1 ha
    have h2 := List.mem_range.1 hb
    exact hab (hf a b (by omega) (by omega) (by omega))
  · rw [List.length_map, ← h.ends, List.length_map]
  · intro k c l hc hl
    rw [List.getElem?_map] at hc hl
    cases hp : P[k]? with
    | none => rw [hp] at hc; cases hc
    | some l0 =>
      rw [hp] at hc hl
      cases hc
      cases hl
      have hl0 := List.mem_of_getElem? hp
      have h2 := h.two l0 hl0
      refine ⟨fun e => ?_, ?_, fun i x hx => ?_⟩
      · have := congrArg List.length e
        rw [trl_len] at this
        simp at this
        omega
      · rw [List.length_map, trl_len]
        omega
      · unfold trl at hx
        rw [List.getElem?_map] at hx
        cases hc : (cons2 l0)[i]? with
        | none => rw [hc] at hx; cases hx
        | some p =>
          rw [hc] at hx
          cases hx
          obtain ⟨a1, a2⟩ := cons2_at hc
          obtain ⟨b1, b2, b3, _⟩ := hstep p (hvin l0 hl0 i p hc)
          dsimp only
          refine ⟨b1, ?_, ?_⟩
          · rw [List.getElem?_map, a1, b2]
            rfl
          · rw [List.getElem?_map, a2, b3]
            rfl
  · intro k c p hc hp
    rw [List.getElem?_map] at hc
    cases hl : P[k]? with
    | none => rw [hl] at hc; cases hc
    | some l0 =>
      rw [hl] at hc
      cases hc
      have h2 := h.two l0 (List.mem_of_getElem? hl)
      have he : en l0 = p := by
        have h3 := h.ends
        have h4 : (P.map en)[k]? = some (en l0) := by rw [List.getElem?_map, hl]; rfl
        rw [h3, hp] at h4
        exact (Option.some.inj h4).symm
      have ho := out_pairs hk p (List.mem_of_getElem? hp)
      obtain ⟨x, L, e⟩ := List.exists_cons_of_ne_nil (l := l0) (fun e => by rw [e] at h2; simp at h2)
      rw [hbr p.1 (by omega), hbr p.2 ho.2, ← he]
      refine ⟨?_, ?_⟩
      · rw [e]
        rfl
      · rw [List.length_map]
        have hlast : l0[l0.length - 1]? = some (l0.getLastD 0) := by
          rw [← List.getLast?_eq_getElem?, List.getLastD_eq_getLast?]
          cases h5 : l0.getLast? with
          | none => rw [List.getLast?_eq_none_iff] at h5; rw [h5] at h2; simp at h2
          | some y => rfl
        exact gI_at (by rw [List.getElem?_map, hlast]; rfl)
  · rw [hts, List.map_map, List.nodup_iff_pairwise_ne, List.pairwise_map]
    have hpa := (h.perm.pairwise_iff (fun h => apart_symm h)).1 h.apart
    refine hpa.imp_of_mem ?_
    intro a b ha hb hab e
    have ha' := h.perm.mem_iff.2 ha
    have hb' := h.perm.mem_iff.2 hb
    have e1 := (hstep a ha').2.2.2
    have e2 := (hstep b hb').2.2.2
    have e : hOf es (f a.1) (f a.2) / 2 = hOf es (f b.1) (f b.2) / 2 := e
    rw [e, e2] at e1
    exact hab (hnorm a ha' b hb' (Option.some.inj e1).symm)
  · rw [hts, List.length_map, ← h.perm.length_eq, hlen]
  · rw [hinn, List.nodup_iff_pairwise_ne, List.pairwise_map]
    refine (List.nodup_iff_pairwise_ne.1 h.innd).imp_of_mem ?_
    intro a b ha hb hab e
    exact hab (hf a b (h.inlo a ha).2 (h.inlo b hb).2 e)
  · intro v hv' hc
    rw [hinn] at hv'
    obtain ⟨a, ha, rfl⟩ := List.mem_map.1 hv'
    obtain ⟨b, hb, e⟩ := List.mem_map.1 hc
    have h1 := h.inlo a ha
    have h2 := List.mem_range.1 hb
    have := hf b a (by omega) h1.2 (by omega)
    omega
end
end Ku
end Go.Proofs.Ytdhaaodalchpkaa
