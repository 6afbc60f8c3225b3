import Derived.Test.YtdhaaodalchpkaaMgN
import Derived.Test.YtdhaaodalchpkaaKuR
import Derived.Test.YtdhaaodalchpkaaMgG
/-
  Layer 15, pure: paths that make up a graph, as the laws look at them.
-/
namespace Go.Proofs.Ytdhaaodalchpkaa

namespace Ku
/-- The list c are the vertices along the half-edges l. -/
structure Way (es : List (Int × Int)) (c : List Int) (l : List Nat) : Prop where
  ne : l ≠ []
  len : c.length = l.length + 1
  at_ : ∀ i h, l[i]? = some h → h < 2 * es.length ∧ c[i]? = some (Cs.fr es h : Int) ∧ c[i + 1]? = some (Cs.to es h : Int)
/-- Where it goes through. -/
def innV (es : List (Int × Int)) (l : List Nat) : List Nat := (l.take (l.length - 1)).map (Cs.to es)
structure Shows (es : List (Int × Int)) (m kd q : Nat) (br : List Int) (ps : List (List Int)) (ts : List (List Nat)) : Prop where
  kdq : (kd = 1 ∧ q = 5) ∨ (kd = 2 ∧ q = 6)
  brl : br.length = q
  brin : ∀ b ∈ br, 0 ≤ b ∧ b < (m : Int)
  brnd : br.Nodup
  pl : ps.length = (out kd q q).length
  tl : ts.length = ps.length
  way : ∀ (k : Nat) (c : List Int) (l : List Nat), ps[k]? = some c → ts[k]? = some l → Way es c l
  ends : ∀ (k : Nat) (c : List Int) (p : Nat × Nat), ps[k]? = some c → (out kd q q)[k]? = some p → gI c 0 = gI br p.1 ∧ gI c (c.length - 1) = gI br p.2
  once : (ts.flatten.map (· / 2)).Nodup
  all : ts.flatten.length = es.length
  inn : ((ts.map (innV es)).flatten).Nodup
  off : ∀ v ∈ (ts.map (innV es)).flatten, (v : Int) ∉ br

theorem flat_split {α : Type} {ts : List (List α)} {k : Nat} {l : List α} (h : ts[k]? = some l) : ts.flatten = (ts.take k).flatten ++ (l ++ (ts.drop (k + 1)).flatten) := by
  obtain ⟨hk, hl⟩ := List.getElem?_eq_some_iff.1 h
  have e : ts = ts.take k ++ (l :: ts.drop (k + 1)) := by
    rw [← hl, ← List.drop_eq_getElem_cons hk, List.take_append_drop]
  calc ts.flatten = (ts.take k ++ (l :: ts.drop (k + 1))).flatten := by rw [← e]
    _ = _ := by rw [List.flatten_append, List.flatten_cons]
theorem flat_at {α : Type} {ts : List (List α)} {k i : Nat} {l : List α} {x : α} (h : ts[k]? = some l) (hx : l[i]? = some x) : ts.flatten[(ts.take k).flatten.length + i]? = some x := by
  have hi := (List.getElem?_eq_some_iff.1 hx).1
  rw [flat_split h, List.getElem?_append_right (by omega), Nat.add_sub_cancel_left, List.getElem?_append_left hi]
  exact hx
theorem flat_next {α : Type} {ts : List (List α)} {k : Nat} {l : List α} (h : ts[k]? = some l) : (ts.take (k + 1)).flatten.length = (ts.take k).flatten.length + l.length := by
  rw [List.take_add_one, h]
  simp
theorem tk_next {α : Type} {F : List α} {d : Nat} {x : α} (h : F[d]? = some x) : F.take (d + 1) = F.take d ++ [x] := by
  rw [List.take_add_one, h]
  rfl
theorem fresh_at {α β : Type} {F : List α} {φ : α → β} {d : Nat} {x : α} (hn : (F.map φ).Nodup) (h : F[d]? = some x) : φ x ∉ (F.take d).map φ := by
  obtain ⟨hd, hx⟩ := List.getElem?_eq_some_iff.1 h
  have e : F = F.take d ++ (x :: F.drop (d + 1)) := by
    rw [← hx, ← List.drop_eq_getElem_cons hd, List.take_append_drop]
  intro hm
  rw [e, List.map_append, List.map_cons, List.nodup_append] at hn
  exact hn.2.2 _ hm _ (by simp) rfl

theorem inn_len {es : List (Int × Int)} {l : List Nat} : (innV es l).length = l.length - 1 := by
  unfold innV
  rw [List.length_map, List.length_take]
  omega
theorem inn_at {es : List (Int × Int)} {l : List Nat} {i h : Nat} (hh : l[i]? = some h) (hi : i + 1 < l.length) : (innV es l)[i]? = some (Cs.to es h) := by
  unfold innV
  rw [List.getElem?_map, List.getElem?_take_of_lt (by omega), hh]
  rfl
section
variable {es : List (Int × Int)} {m kd q : Nat} {br : List Int} {ps : List (List Int)} {ts : List (List Nat)}
/-- How many half-edges, how many vertices between, ahead of the k-th path. -/
def offE (ts : List (List Nat)) (k : Nat) : Nat := (ts.take k).flatten.length
def offV (es : List (Int × Int)) (ts : List (List Nat)) (k : Nat) : Nat := ((ts.map (innV es)).take k).flatten.length
theorem offE_zero : offE ts 0 = 0 := by simp [offE]
theorem offV_zero : offV es ts 0 = 0 := by simp [offV]
theorem offE_next {k : Nat} {l : List Nat} (h : ts[k]? = some l) : offE ts (k + 1) = offE ts k + l.length := flat_next h
theorem offV_next {k : Nat} {l : List Nat} (h : ts[k]? = some l) : offV es ts (k + 1) = offV es ts k + (l.length - 1) := by
  unfold offV
  rw [flat_next (l := innV es l) (by rw [List.getElem?_map, h]; rfl), inn_len]
theorem edge_at {k i h : Nat} {l : List Nat} (hl : ts[k]? = some l) (hh : l[i]? = some h) : ts.flatten[offE ts k + i]? = some h := flat_at hl hh
theorem vert_at {k i h : Nat} {l : List Nat} (hl : ts[k]? = some l) (hh : l[i]? = some h) (hi : i + 1 < l.length) : (ts.map (innV es)).flatten[offV es ts k + i]? = some (Cs.to es h) :=
  flat_at (ts := ts.map (innV es)) (l := innV es l) (by rw [List.getElem?_map, hl]; rfl) (inn_at hh hi)
theorem Shows.few (s : Shows es m kd q br ps ts) {k : Nat} {l : List Nat} (hl : ts[k]? = some l) : offE ts k + l.length ≤ es.length := by
  rw [← s.all, flat_split hl, List.length_append, List.length_append]
  unfold offE
  omega
theorem Shows.whole (s : Shows es m kd q br ps ts) : offE ts ps.length = es.length := by
  unfold offE
  rw [List.take_of_length_le (by rw [s.tl]; exact Nat.le_refl _)]
  exact s.all

/-- What is written down of edges. -/
def SeenE (ts : List (List Nat)) (d : Nat) (f : Nat → Bool) : Prop := ∀ x, f x = true ↔ x ∈ (ts.flatten.take d).map (· / 2)
theorem SeenE.start : SeenE ts 0 fun _ => false := fun x => by simp
theorem SeenE.fresh (s : Shows es m kd q br ps ts) {d h : Nat} {f : Nat → Bool} (hf : SeenE ts d f) (hh : ts.flatten[d]? = some h) : f (h / 2) = false := by
  rw [← Bool.not_eq_true, hf]
  exact fresh_at s.once hh
theorem SeenE.step {d h : Nat} {f : Nat → Bool} (hf : SeenE ts d f) (hh : ts.flatten[d]? = some h) : SeenE ts (d + 1) (Co.updB f (h / 2) true) := fun x => by
  rw [tk_next hh, List.map_append, List.mem_append, ← hf x]
  unfold Co.updB
  by_cases e : x = h / 2
  · subst e
    simp
  · rw [if_neg e]
    simp [e]
/-- What is written down of vertices. -/
structure SeenV (es : List (Int × Int)) (m : Nat) (br : List Int) (ts : List (List Nat)) (g : Nat) (U : List Int) : Prop where
  len : U.length = m
  iff : ∀ v, v < m → (gI U v ≠ 0 ↔ ((v : Int) ∈ br ∨ v ∈ (ts.map (innV es)).flatten.take g))
theorem gI_set {U : List Int} {v w : Nat} {z : Int} (hv : v < U.length) : gI (U.set v z) w = if v = w then z else gI U w := by
  unfold gI
  rw [List.getD_eq_getElem?_getD, List.getD_eq_getElem?_getD, List.getElem?_set]
  by_cases e : v = w
  · subst e
    simp [hv]
  · rw [if_neg e, if_neg e]
theorem SeenV.fresh (s : Shows es m kd q br ps ts) {g v : Nat} {U : List Int} (hU : SeenV es m br ts g U) (hv : (ts.map (innV es)).flatten[g]? = some v) (hm : v < m) : gI U v = 0 := by
  refine Classical.byContradiction fun hc => ?_
  rcases (hU.iff v hm).1 hc with h | h
  · exact s.off v (List.mem_of_getElem? hv) h
  · have := fresh_at (φ := id) (by rw [List.map_id]; exact s.inn) hv
    rw [List.map_id] at this
    exact this h
theorem SeenV.step {g v : Nat} {U : List Int} (hU : SeenV es m br ts g U) (hv : (ts.map (innV es)).flatten[g]? = some v) (hm : v < m) : SeenV es m br ts (g + 1) (U.set v 2) := by
  refine ⟨by rw [List.length_set]; exact hU.len, fun x hx => ?_⟩
  rw [gI_set (by rw [hU.len]; exact hm), tk_next hv, List.mem_append, List.mem_singleton]
  by_cases e : v = x
  · subst e
    simp
  · rw [if_neg e, hU.iff x hx]
    constructor
    · rintro (h | h)
      · exact .inl h
      · exact .inr (.inl h)
    · rintro (h | h | h)
      · exact .inl h
      · exact .inr h
      · exact absurd h.symm e
/-- The branch vertices written down so far. -/
structure SeenB (m : Nat) (br : List Int) (i : Nat) (U : List Int) : Prop where
  len : U.length = m
  iff : ∀ v, v < m → (gI U v ≠ 0 ↔ (v : Int) ∈ br.take i)
theorem SeenB.start (m : Nat) (br : List Int) : SeenB m br 0 (List.replicate m 0) := ⟨by simp, fun v hv => by
  have : gI (List.replicate m 0) v = 0 := by
    unfold gI
    rw [List.getD_eq_getElem?_getD, List.getElem?_replicate, if_pos hv]
    rfl
  rw [this]
  simp⟩
theorem SeenB.fresh {i : Nat} {U : List Int} {b : Nat} (hnd : br.Nodup) (h : SeenB m br i U) (hb : br[i]? = some (b : Int)) (hm : b < m) : gI U b = 0 := by
  refine Classical.byContradiction fun hc => ?_
  have := fresh_at (φ := id) (by rw [List.map_id]; exact hnd) hb
  rw [List.map_id] at this
  exact this ((h.iff b hm).1 hc)
theorem SeenB.step {i : Nat} {U : List Int} {b : Nat} (h : SeenB m br i U) (hb : br[i]? = some (b : Int)) (hm : b < m) : SeenB m br (i + 1) (U.set b 1) := by
  refine ⟨by rw [List.length_set]; exact h.len, fun x hx => ?_⟩
  rw [gI_set (by rw [h.len]; exact hm), tk_next hb, List.mem_append, List.mem_singleton]
  by_cases e : b = x
  · subst e
    simp
  · rw [if_neg e, h.iff x hx]
    constructor
    · exact .inl
    · rintro (h | h)
      · exact h
      · exact absurd (by omega) e
theorem SeenB.done {U : List Int} (h : SeenB m br br.length U) : SeenV es m br ts 0 U := ⟨h.len, fun v hv => by
  rw [h.iff v hv, List.take_length]
  simp⟩
end

/-- Which pair comes next. -/
theorem pair_next {kd q i j : Nat} (hk : (kd = 1 ∧ q = 5) ∨ (kd = 2 ∧ q = 6)) (hi : i < q) (hj : j < q) (hij : i < j) (hs : ¬ (kd = 2 ∧ (3 ≤ i ∨ j < 3))) : (out kd q q)[(out kd q i ++ inn kd i j).length]? = some (i, j) := by
  rcases hk with ⟨rfl, rfl⟩ | ⟨rfl, rfl⟩
  · have h : ((List.range 5).all fun i => (List.range 5).all fun j => !decide (i < j) || decide ((out 1 5 5)[(out 1 5 i ++ inn 1 i j).length]? = some (i, j))) = true := by decide
    have h1 := List.all_eq_true.1 (List.all_eq_true.1 h i (List.mem_range.2 hi)) j (List.mem_range.2 hj)
    simpa [hij] using h1
  · have h : ((List.range 6).all fun i => (List.range 6).all fun j => !decide (i < j) || decide (3 ≤ i ∨ j < 3) || decide ((out 2 6 6)[(out 2 6 i ++ inn 2 i j).length]? = some (i, j))) = true := by decide
    have h1 := List.all_eq_true.1 (List.all_eq_true.1 h i (List.mem_range.2 hi)) j (List.mem_range.2 hj)
    have h2 : ¬ (3 ≤ i ∨ j < 3) := fun h => hs ⟨rfl, h⟩
    simpa [hij, h2] using h1
end Ku
end Go.Proofs.Ytdhaaodalchpkaa

/-
  Layer 15, pure: what Recognise answers shows the graph.
-/
namespace Go.Proofs.Ytdhaaodalchpkaa
open Go.RowKit Go.Sort Go.Maps

namespace Ku
theorem pigeon {A : List Nat} {J : Nat} (hn : A.Nodup) (hl : A.length = J) (hb : ∀ a ∈ A, a < J) {i : Nat} (hi : i < J) : i ∈ A := by
  refine Classical.byContradiction fun hc => ?_
  have := few_below (l := i :: A) (M := J) (List.nodup_cons.2 ⟨hc, hn⟩) fun x hx => by
    rcases List.mem_cons.1 hx with rfl | hx
    · exact hi
    · exact hb x hx
  rw [List.length_cons] at this
  omega
section
variable {es : List (Int × Int)} {n : Int} {hv : Si.Val n es}
theorem tr_fr {l : List Nat} (t : Tr (gs es hv).toSys l) {i x : Nat} (h : l[i]? = some x) : (ZL (vs (gs es hv) l))[i]? = some (Cs.fr es x : Int) ∧ (ZL (vs (gs es hv) l))[i + 1]? = some (Cs.to es x : Int) := by
  have hi := (List.getElem?_eq_some_iff.1 h).1
  refine ⟨?_, ?_⟩
  · rw [ZL_at, vs_at t hi, h]
    rfl
  · rw [ZL_at, vs_succ, h]
    show some (((gs es hv).to x : Nat) : Int) = _
    rw [gs_to]
/-- A trail of half-edges that are there, each edge once. -/
structure Trl (es : List (Int × Int)) {n : Int} (hv : Si.Val n es) (T : List Nat) : Prop where
  tr : Tr (gs es hv).toSys T
  ne : T ≠ []
  lt : ∀ x ∈ T, x < 2 * es.length
  nd : (T.map (· / 2)).Nodup
theorem Trl.of {l : List Nat} (c : Cn (gs es hv) l) : Trl es hv l := by
  refine ⟨c.tr, c.ne, c.lt, ?_⟩
  rw [List.nodup_iff_pairwise_ne, List.pairwise_map, List.pairwise_iff_getElem]
  intro i j hi hj hij
  exact once c hij (List.getElem?_eq_getElem hi) (List.getElem?_eq_getElem hj)
theorem half_twin (l : List Nat) : (l.map Cs.twin).map (· / 2) = l.map (· / 2) := by
  rw [List.map_map]
  exact List.map_congr_left fun x _ => twin_half x
theorem Trl.rv {l : List Nat} (t : Trl es hv l) : Trl es hv (Ku.rv (gs es hv).toSys l) := by
  refine ⟨t.tr.rv, fun h => ?_, fun x hx => ?_, ?_⟩
  · have := congrArg List.length h
    rw [rv_length] at this
    exact t.ne (List.eq_nil_of_length_eq_zero this)
  · have h1 : Cs.twin x ∈ l := mem_rv.1 hx
    have h2 := Cs.twin_lt (t.lt _ h1)
    rw [twin_twin] at h2
    exact h2
  · show (((l.map Cs.twin).reverse).map (· / 2)).Nodup
    rw [List.map_reverse, half_twin, List.nodup_iff_pairwise_ne, List.pairwise_reverse]
    exact (List.nodup_iff_pairwise_ne.1 t.nd).imp fun h => h.symm
theorem rv_by {l : List Nat} {x : Nat} : x ∈ (Ku.rv (gs es hv).toSys l).map (· / 2) ↔ x ∈ l.map (· / 2) := by
  show x ∈ ((l.map Cs.twin).reverse).map (· / 2) ↔ _
  rw [List.map_reverse, half_twin, List.mem_reverse]
theorem Trl.way {l : List Nat} (t : Trl es hv l) : Way es (ZL (vs (gs es hv) l)) l := ⟨t.ne, by rw [ZL_length, vs_length t.ne], fun i h hh => ⟨t.lt h (List.mem_of_getElem? hh), tr_fr t.tr hh⟩⟩
theorem Trl.two {l : List Nat} (t : Trl es hv l) {i x y : Nat} (hx : l[i]? = some x) (hy : l[i + 1]? = some y) : nxt es x = some y := t.tr i x y hx hy
/-- Who comes to the same vertex, where one goes on. -/
theorem enter {x y h' : Nat} (hn : nxt es x = some y) (hh : h' < 2 * es.length) (e : Cs.to es h' = Cs.to es x) : h' = x ∨ h' / 2 = y / 2 := by
  obtain ⟨ho, -⟩ := nxt_some hn
  have hm : Cs.twin h' ∈ Cs.out es (Cs.to es x) (2 * es.length) := mem_out.2 ⟨Cs.twin_lt hh, by rw [Cs.fr_twin, e]⟩
  have : Cs.twin h' = Cs.twin x ∨ Cs.twin h' = y := by
    rcases ho with ho | ho <;> rw [ho] at hm <;> simp at hm <;> omega
  rcases this with h1 | h1
  · left
    rw [← twin_twin h', h1, twin_twin]
  · right
    rw [← h1, twin_half]
theorem mem_inn {l : List Nat} {v : Nat} (h : v ∈ innV es l) : ∃ i x y, l[i]? = some x ∧ l[i + 1]? = some y ∧ v = Cs.to es x := by
  obtain ⟨i, hi⟩ := List.getElem?_of_mem h
  have hlt := (List.getElem?_eq_some_iff.1 hi).1
  rw [inn_len] at hlt
  obtain ⟨x, hx⟩ : ∃ x, l[i]? = some x := ⟨_, List.getElem?_eq_getElem (by omega)⟩
  obtain ⟨y, hy⟩ : ∃ y, l[i + 1]? = some y := ⟨_, List.getElem?_eq_getElem (by omega)⟩
  rw [inn_at hx (by omega)] at hi
  cases hi
  exact ⟨i, x, y, hx, hy, rfl⟩
theorem nd_at {l : List Nat} (h : (l.map (· / 2)).Nodup) {i j x y : Nat} (hx : l[i]? = some x) (hy : l[j]? = some y) (e : x / 2 = y / 2) : i = j := by
  have h1 : (l.map (· / 2))[i]? = some (x / 2) := by rw [List.getElem?_map, hx]; rfl
  have h2 : (l.map (· / 2))[j]? = some (y / 2) := by rw [List.getElem?_map, hy]; rfl
  obtain ⟨a1, a2⟩ := List.getElem?_eq_some_iff.1 h1
  obtain ⟨b1, b2⟩ := List.getElem?_eq_some_iff.1 h2
  exact (List.getElem_inj h).1 (a2.trans (e.trans b2.symm))
theorem Trl.inn {l : List Nat} (t : Trl es hv l) : (innV es l).Nodup := by
  rw [List.nodup_iff_pairwise_ne, List.pairwise_iff_getElem]
  intro i j hi hj hij e
  rw [inn_len] at hi hj
  obtain ⟨x, hx⟩ : ∃ x, l[i]? = some x := ⟨_, List.getElem?_eq_getElem (by omega)⟩
  obtain ⟨x', hx'⟩ : ∃ x, l[j]? = some x := ⟨_, List.getElem?_eq_getElem (by omega)⟩
  obtain ⟨y, hy⟩ : ∃ y, l[i + 1]? = some y := ⟨_, List.getElem?_eq_getElem (by omega)⟩
  have e1 : (innV es l)[i]? = some (Cs.to es x) := inn_at hx (by omega)
  have e2 : (innV es l)[j]? = some (Cs.to es x') := inn_at hx' (by omega)
  have e3 : Cs.to es x' = Cs.to es x := by
    rw [List.getElem?_eq_getElem (by rw [inn_len]; omega)] at e1 e2
    rw [← Option.some.inj e1, ← Option.some.inj e2]
    exact e.symm
  rcases enter (t.two hx hy) (t.lt x' (List.mem_of_getElem? hx')) e3 with h | h
  · have := nd_at t.nd hx' hx (by rw [h])
    omega
  · have h1 := nd_at t.nd hx' hy h
    have h2 : x' = y := by
      rw [h1, hy] at hx'
      cases hx'
      rfl
    -- where one comes to is not where one comes from
    have h3 : Cs.fr es y = Cs.to es x := by
      have := (gs es hv).joint x y (t.two hx hy)
      have h4 : (gs es hv).fr ((gs es hv).tw x) = Cs.to es x := Cs.fr_twin es x
      rw [h4] at this
      exact this
    have h5 := no_loop hv (t.lt y (List.mem_of_getElem? hy))
    rw [h2] at e3
    exact h5 (h3.trans e3.symm)
theorem Trl.apart {l l' : List Nat} (t : Trl es hv l) (t' : Trl es hv l') (hd : ∀ x ∈ l.map (· / 2), x ∉ l'.map (· / 2)) : ∀ v ∈ innV es l, ∀ v' ∈ innV es l', v ≠ v' := by
  intro v hv1 v' hv' e
  subst e
  obtain ⟨i, x, y, hx, hy, rfl⟩ := mem_inn hv1
  obtain ⟨j, x', y', hx', hy', e⟩ := mem_inn hv'
  have m1 : ∀ {a : Nat} {i : Nat}, l[i]? = some a → a / 2 ∈ l.map (· / 2) := fun h => List.mem_map_of_mem (f := (· / 2)) (List.mem_of_getElem? h)
  have m2 : ∀ {a : Nat} {i : Nat}, l'[i]? = some a → a / 2 ∈ l'.map (· / 2) := fun h => List.mem_map_of_mem (f := (· / 2)) (List.mem_of_getElem? h)
  rcases enter (t.two hx hy) (t'.lt x' (List.mem_of_getElem? hx')) e.symm with h | h
  · exact hd _ (m1 hx) (by rw [← h]; exact m2 hx')
  · exact hd _ (m1 hy) (by rw [← h]; exact m2 hx')
theorem Trl.deg {l : List Nat} (t : Trl es hv l) {v : Nat} (h : v ∈ innV es l) : dg es v = 2 := by
  obtain ⟨i, x, y, hx, hy, rfl⟩ := mem_inn h
  refine Classical.byContradiction fun hc => ?_
  have := (nxt_none (t.lt x (List.mem_of_getElem? hx))).2 hc
  rw [t.two hx hy] at this
  cases this

/-- The half-edges of the path for a pair. -/
noncomputable def tOf (es : List (Int × Int)) {n : Int} (hv : Si.Val n es) (p : Int × Int) : List Nat :=
  open Classical in if gI ((rows es hv es.length).getD ((idx (rows es hv es.length) p).getD 0) []) 0 = p.1 then (chs es hv es.length).getD ((idx (rows es hv es.length) p).getD 0) [] else Ku.rv (gs es hv).toSys ((chs es hv es.length).getD ((idx (rows es hv es.length) p).getD 0) [])
theorem tOf_at {p : Int × Int} {i : Nat} (hi : idx (rows es hv es.length) p = some i) : ∃ l, (chs es hv es.length)[i]? = some l ∧ Cn (gs es hv) l ∧ (rows es hv es.length)[i]? = some (ZL (vs (gs es hv) l)) ∧ Trl es hv (tOf es hv p) ∧ (∀ x, x ∈ (tOf es hv p).map (· / 2) ↔ x ∈ l.map (· / 2)) ∧ pathOf (rows es hv es.length) p = ZL (vs (gs es hv) (tOf es hv p)) ∧ gI (pathOf (rows es hv es.length) p) 0 = p.1 ∧ gI (pathOf (rows es hv es.length) p) ((pathOf (rows es hv es.length) p).length - 1) = p.2 := by
  obtain ⟨c, hc, hends, hne⟩ := idx_at hi
  obtain ⟨l, hl, rfl⟩ := rows_at hc
  have hcn := chs_cn (Nat.le_refl _) (List.mem_of_getElem? hl)
  have e1 : (rows es hv es.length).getD ((idx (rows es hv es.length) p).getD 0) [] = ZL (vs (gs es hv) l) := by
    rw [hi, Option.getD_some, List.getD_eq_getElem?_getD, hc]
    rfl
  have e2 : (chs es hv es.length).getD ((idx (rows es hv es.length) p).getD 0) [] = l := by
    rw [hi, Option.getD_some, List.getD_eq_getElem?_getD, hl]
    rfl
  have hp := pathOf_at hi hc
  have hlen : (ZL (vs (gs es hv) l)).length = l.length + 1 := by rw [ZL_length, vs_length hcn.ne]
  have hpos := pos_of hcn.ne
  unfold ends at hends
  have ha : gI (ZL (vs (gs es hv) l)) 0 = (key p).1 := congrArg Prod.fst hends
  have hb : gI (ZL (vs (gs es hv) l)) ((ZL (vs (gs es hv) l)).length - 1) = (key p).2 := congrArg Prod.snd hends
  refine ⟨l, hl, hcn, hc, ?_⟩
  have ht : tOf es hv p = if gI (ZL (vs (gs es hv) l)) 0 = p.1 then l else Ku.rv (gs es hv).toSys l := by
    unfold tOf
    rw [e1, e2]
  rw [ht, hp]
  unfold fromL
  by_cases h : gI (ZL (vs (gs es hv) l)) 0 = p.1
  · rw [if_pos h, if_pos h]
    refine ⟨Trl.of hcn, fun x => Iff.rfl, rfl, h, ?_⟩
    rw [hb]
    rw [ha] at h
    unfold key at h ⊢
    split
    · rename_i h2
      rw [if_pos h2] at h
      dsimp only at h
      omega
    · rfl
  · rw [if_neg h, if_neg h]
    have hrv : (ZL (vs (gs es hv) l)).reverse = ZL (vs (gs es hv) (Ku.rv (gs es hv).toSys l)) := by
      rw [vs_rv hcn.tr hcn.ne]
      unfold ZL
      rw [List.map_reverse]
    have hkey : key p = (p.2, p.1) := by
      unfold key at ha ⊢
      split
      · rfl
      · rename_i h2
        rw [if_neg h2] at ha
        exact absurd ha h
    rw [hkey] at ha hb
    dsimp only at ha hb
    have g1 : ∀ i, i < (ZL (vs (gs es hv) l)).length → gI (ZL (vs (gs es hv) l)).reverse i = gI (ZL (vs (gs es hv) l)) ((ZL (vs (gs es hv) l)).length - 1 - i) := fun i hi => by
      unfold gI
      rw [List.getD_eq_getElem?_getD, List.getD_eq_getElem?_getD, List.getElem?_reverse hi]
    refine ⟨(Trl.of hcn).rv, fun x => rv_by, hrv, ?_, ?_⟩
    · rw [g1 0 (by omega), Nat.sub_zero]
      exact hb
    · rw [List.length_reverse, g1 _ (by omega), show (ZL (vs (gs es hv) l)).length - 1 - ((ZL (vs (gs es hv) l)).length - 1) = 0 by omega]
      exact ha
theorem chains_apart {i j : Nat} {l l' : List Nat} (hij : i < j) (hl : (chs es hv es.length)[i]? = some l) (hl' : (chs es hv es.length)[j]? = some l') {x : Nat} (hx : x ∈ l.map (· / 2)) : x ∉ l'.map (· / 2) := by
  intro hx'
  obtain ⟨e, a1, a2, a3, a4⟩ := chs_nth (Nat.le_refl _) hl'
  obtain ⟨h', hm', e'⟩ := List.mem_map.1 hx'
  obtain ⟨h, hm, e2⟩ := List.mem_map.1 hx
  refine first_free a1 a2 (e' := x) (by rw [← a3]; exact ⟨h', hm', e'⟩) ⟨l, ?_, h, hm, e2⟩
  rw [← a4]
  refine List.mem_of_getElem? (i := i) ?_
  rw [List.getElem?_take_of_lt hij]
  exact hl
theorem paths_apart {p p' : Int × Int} {i i' : Nat} (hi : idx (rows es hv es.length) p = some i) (hi' : idx (rows es hv es.length) p' = some i') (hk : key p ≠ key p') : ∀ x ∈ (tOf es hv p).map (· / 2), x ∉ (tOf es hv p').map (· / 2) := by
  obtain ⟨l, hl, _, _, _, hm, _⟩ := tOf_at hi
  obtain ⟨l', hl', _, _, _, hm', _⟩ := tOf_at hi'
  intro x hx hx'
  rw [hm] at hx
  rw [hm'] at hx'
  have hne : i ≠ i' := fun e => hk (idx_ne hi (e ▸ hi'))
  rcases Nat.lt_or_gt_of_ne hne with h | h
  · exact chains_apart h hl hl' hx hx'
  · exact chains_apart h hl' hl hx' hx
end

theorem shows_of {m : Nat} {es : List (Int × Int)} (hv : Si.Val (m : Int) es) {kd q : Nat} {br : List Int} {prs : List (Int × Int)} (hkq : (kd = 1 ∧ q = 5) ∨ (kd = 2 ∧ q = 6)) (hbl : br.length = q) (hbin : ∀ b ∈ br, 0 ≤ b ∧ b < (m : Int)) (hbn : br.Nodup) (hbd : ∀ v : Nat, (v : Int) ∈ br → dg es v ≠ 2)
    (hprs : prs = (out kd q q).map fun p => (gI br p.1, gI br p.2)) (hap : KeysApart prs) (hA : All (rows es hv es.length) prs) : Shows es m kd q br (prs.map (pathOf (rows es hv es.length))) (prs.map (tOf es hv)) := by
  have hidx : ∀ p ∈ prs, ∃ i, idx (rows es hv es.length) p = some i := hA.2
  have hTrl : ∀ p ∈ prs, Trl es hv (tOf es hv p) := fun p hp => by
    obtain ⟨i, hi⟩ := hidx p hp
    obtain ⟨_, _, _, _, h, _⟩ := tOf_at hi
    exact h
  have hpw := apart_pw hap
  have hpw2 : prs.Pairwise fun p p' => ∀ x ∈ (tOf es hv p).map (· / 2), x ∉ (tOf es hv p').map (· / 2) := by
    refine List.Pairwise.imp_of_mem (fun {a b} ha hb h => ?_) hpw
    obtain ⟨i, hi⟩ := hidx a ha
    obtain ⟨j, hj⟩ := hidx b hb
    exact paths_apart hi hj h
  have hnd : ((prs.map (tOf es hv)).flatten.map (· / 2)).Nodup := by
    rw [List.map_flatten, List.nodup_iff_pairwise_ne, List.pairwise_flatten]
    refine ⟨fun l hl => ?_, ?_⟩
    · obtain ⟨T, hT, rfl⟩ := List.mem_map.1 hl
      obtain ⟨p, hp, rfl⟩ := List.mem_map.1 hT
      exact List.nodup_iff_pairwise_ne.1 (hTrl p hp).nd
    · rw [List.pairwise_map, List.pairwise_map]
      exact hpw2.imp (by intro a b h x hx y hy e; exact h x hx (by rw [e]; exact hy))
  refine ⟨hkq, hbl, hbin, hbn, by rw [List.length_map, hprs, List.length_map], by rw [List.length_map, List.length_map], fun k c l hc hl => ?_, fun k c p hc hp => ?_, hnd, ?_, ?_, ?_⟩
  · rw [List.getElem?_map] at hc hl
    obtain ⟨p, hp, rfl⟩ := Option.map_eq_some_iff.1 hc
    rw [hp] at hl
    cases hl
    obtain ⟨i, hi⟩ := hidx p (List.mem_of_getElem? hp)
    obtain ⟨_, _, _, _, h1, _, h2, _⟩ := tOf_at hi
    rw [h2]
    exact h1.way
  · rw [List.getElem?_map] at hc
    obtain ⟨r, hr, rfl⟩ := Option.map_eq_some_iff.1 hc
    obtain ⟨i, hi⟩ := hidx r (List.mem_of_getElem? hr)
    obtain ⟨_, _, _, _, _, _, _, h3, h4⟩ := tOf_at hi
    rw [hprs, List.getElem?_map, hp] at hr
    cases hr
    exact ⟨h3, h4⟩
  · -- all edges
    have hle : (prs.map (tOf es hv)).flatten.length = ((prs.map (tOf es hv)).flatten.map (· / 2)).length := by rw [List.length_map]
    rw [hle]
    refine Nat.le_antisymm ?_ ?_
    · refine few_below hnd fun x hx => ?_
      rw [List.map_flatten] at hx
      obtain ⟨l, hl, hxl⟩ := List.mem_flatten.1 hx
      obtain ⟨T, hT, rfl⟩ := List.mem_map.1 hl
      obtain ⟨p, hp, rfl⟩ := List.mem_map.1 hT
      obtain ⟨h, hh, rfl⟩ := List.mem_map.1 hxl
      have := (hTrl p hp).lt h hh
      omega
    · have hsub : ∀ x ∈ List.range es.length, x ∈ (prs.map (tOf es hv)).flatten.map (· / 2) := fun x hx => by
        obtain ⟨l, hl, hb⟩ := all_seen (hv := hv) (List.mem_range.1 hx)
        obtain ⟨i, hi⟩ := List.getElem?_of_mem hl
        have hiJ : i < (rows es hv es.length).length := by rw [rows_length]; exact (List.getElem?_eq_some_iff.1 hi).1
        have hin : i ∈ prs.map fun p => (idx (rows es hv es.length) p).getD 0 := by
          refine pigeon (J := (rows es hv es.length).length) ?_ (by rw [List.length_map]; exact hA.1.symm) (fun a ha => ?_) hiJ
          · rw [List.nodup_iff_pairwise_ne, List.pairwise_map]
            refine List.Pairwise.imp_of_mem (fun {a b} ha hb h => ?_) hpw
            obtain ⟨j, hj⟩ := hidx a ha
            obtain ⟨j', hj'⟩ := hidx b hb
            rw [hj, hj']
            intro e
            have e : j = j' := e
            subst e
            exact h (idx_ne hj hj')
          · obtain ⟨p, hp, rfl⟩ := List.mem_map.1 ha
            obtain ⟨j, hj⟩ := hidx p hp
            rw [hj]
            exact idx_lt hj
        obtain ⟨p, hp, he⟩ := List.mem_map.1 hin
        obtain ⟨j, hj⟩ := hidx p hp
        rw [hj] at he
        have he : j = i := he
        subst he
        obtain ⟨l', hl', _, _, _, hm, _⟩ := tOf_at hj
        rw [hi] at hl'
        cases hl'
        rw [List.map_flatten]
        refine List.mem_flatten.2 ⟨(tOf es hv p).map (· / 2), List.mem_map_of_mem (List.mem_map_of_mem hp), ?_⟩
        rw [hm]
        obtain ⟨h, hh, rfl⟩ := hb
        exact List.mem_map_of_mem hh
      have := List.Nodup.length_le_of_subset (List.nodup_range (n := es.length)) hsub
      rw [List.length_range] at this
      exact this
  · rw [List.nodup_iff_pairwise_ne, List.pairwise_flatten]
    refine ⟨fun l hl => ?_, ?_⟩
    · obtain ⟨T, hT, rfl⟩ := List.mem_map.1 hl
      obtain ⟨p, hp, rfl⟩ := List.mem_map.1 hT
      exact List.nodup_iff_pairwise_ne.1 (hTrl p hp).inn
    · rw [List.pairwise_map, List.pairwise_map]
      refine List.Pairwise.imp_of_mem (fun {a b} ha hb h => ?_) hpw2
      exact (hTrl a ha).apart (hTrl b hb) h
  · intro v hv1
    obtain ⟨l, hl, hvl⟩ := List.mem_flatten.1 hv1
    obtain ⟨T, hT, rfl⟩ := List.mem_map.1 hl
    obtain ⟨p, hp, rfl⟩ := List.mem_map.1 hT
    exact fun hb => hbd v hb ((hTrl p hp).deg hvl)
end Ku
end Go.Proofs.Ytdhaaodalchpkaa

/-
  Layer 15, pure: what Recognise answers shows the graph, and its branch vertices rise.
-/
namespace Go.Proofs.Ytdhaaodalchpkaa
open Go.RowKit Go.Sort Go.Maps

namespace Ku
theorem kur_some {R : List (List Int)} {kd kd' : Int} {br br' : List Int} {prs : List (Int × Int)} {ps : List (List Int)} (h : kur R kd br prs = some (kd', br', ps)) : All R prs ∧ kd' = kd ∧ br' = br ∧ ps = prs.map (pathOf R) := by
  unfold kur at h
  split at h
  · rename_i hA
    cases h
    exact ⟨hA, rfl, rfl, rfl⟩
  · cases h
theorem rec_shows {m : Nat} {es : List (Int × Int)} (hv : Si.Val (m : Int) es) {kd : Int} {br : List Int} {ps : List (List Int)} (h : recA (rows es hv es.length) es m = some (kd, br, ps)) :
    ∃ (k q : Nat) (ts : List (List Nat)), kd = (k : Int) ∧ Shows es m k q br ps ts ∧ (∀ i, 1 ≤ i → i < q → ¬ (k = 2 ∧ i = 3) → gI br (i - 1) < gI br i) ∧ (k = 2 → gI br 0 < gI br 3) := by
  have hup := ZL_up (brs_up es m)
  have hsm := brs_small hv
  have hin : ∀ b ∈ ZL (brs es m), 0 ≤ b ∧ b < (m : Int) := fun b hb => by
    unfold ZL at hb
    obtain ⟨v, hv', rfl⟩ := List.mem_map.1 hb
    have := (mem_brs.1 hv').1
    omega
  have hd : ∀ v : Nat, (v : Int) ∈ ZL (brs es m) → dg es v ≠ 2 := fun v hb => by
    unfold ZL at hb
    obtain ⟨u, hu, e⟩ := List.mem_map.1 hb
    have e : u = v := by omega
    subst e
    exact (mem_brs.1 hu).2.2
  unfold recA at h
  split at h
  · rename_i h5
    obtain ⟨hA, rfl, rfl, rfl⟩ := kur_some h
    have hl5 : (ZL (brs es m)).length = 5 := by rw [ZL_length]; exact h5.1
    have hprs : pout (ZL (brs es m)) 5 = (out 1 5 5).map fun p => (gI (ZL (brs es m)) p.1, gI (ZL (brs es m)) p.2) := by
      obtain ⟨a, b, c, d, e, hf⟩ := five_form hl5
      rw [hf, out1]
      rfl
    refine ⟨1, 5, _, rfl, shows_of hv (kd := 1) (q := 5) (.inl ⟨rfl, rfl⟩) hl5 hin ?_ hd hprs (pout_ok hl5 hup hsm).2 hA, fun i h1 h2 _ => gI_up hup (by omega) (by omega), fun h => by omega⟩
    rw [List.nodup_iff_pairwise_ne]
    exact hup.imp (by intro a b h; omega)
  · split at h
    · rename_i h6
      obtain ⟨hA, rfl, rfl, rfl⟩ := kur_some h
      have hl6 : (ZL (brs es m)).length = 6 := by rw [ZL_length]; exact h6.1
      have hnf := nf_length (rows es hv es.length) (ZL (brs es m)) 6
      have uN := nearK_up (R := rows es hv es.length) hup (k := 6) (by omega)
      have uF := farK_up (R := rows es hv es.length) hup (k := 6) (by omega)
      have ap : ∀ p ∈ nearK (rows es hv es.length) (ZL (brs es m)) 6, ∀ q ∈ farK (rows es hv es.length) (ZL (brs es m)) 6, p ≠ q := fun p hp q hq => nf_apart (R := rows es hv es.length) hup (by rw [hl6]; exact hp) (by rw [hl6]; exact hq)
      have mN : ∀ p ∈ nearK (rows es hv es.length) (ZL (brs es m)) 6 ++ farK (rows es hv es.length) (ZL (brs es m)) 6, p ∈ ZL (brs es m) := fun p hp => by
        have hg : ∀ i, i < 6 → gI (ZL (brs es m)) i ∈ ZL (brs es m) := fun i hi => by
          have h1 : (ZL (brs es m))[i]? = some ((ZL (brs es m))[i]'(by omega)) := List.getElem?_eq_getElem (by omega)
          rw [gI_at h1]
          exact List.getElem_mem _
        rcases List.mem_append.1 hp with h | h
        · obtain ⟨i, hi, rfl, _⟩ := mem_nearK h
          exact hg i hi
        · obtain ⟨i, hi, rfl, _⟩ := mem_farK h
          exact hg i hi
      have hlow : ∀ p ∈ farK (rows es hv es.length) (ZL (brs es m)) 6, gI (ZL (brs es m)) 0 < p := fun p hp => by
        obtain ⟨i, hi, rfl, hj⟩ := mem_farK hp
        have hi0 : i ≠ 0 := fun e => by
          rw [e, jnd_zero] at hj
          cases hj
        exact gI_up hup (by omega) (by omega)
      obtain ⟨t, ht⟩ := nearK_head (rows es hv es.length) (ZL (brs es m)) 5
      have hok := (cout_ok hl6 hup hsm h6.2.2).2
      have h3 := h6.2.2
      generalize nearK (rows es hv es.length) (ZL (brs es m)) 6 = N at *
      generalize farK (rows es hv es.length) (ZL (brs es m)) 6 = F at *
      obtain ⟨a, b, c, rfl⟩ := three_form h3
      obtain ⟨x, y, z, rfl⟩ := three_form (L := F) (by simp at hnf; omega)
      have ea : gI (ZL (brs es m)) 0 = a := by cases ht; rfl
      rw [ea] at hlow
      refine ⟨2, 6, _, rfl, shows_of hv (kd := 2) (q := 6) (.inr ⟨rfl, rfl⟩) rfl (fun p hp => hin p (mN p hp)) ?_ (fun v hp => hd v (mN _ hp)) ?_ hok hA, ?_, fun _ => hlow x (by simp)⟩
      · rw [List.nodup_iff_pairwise_ne, List.pairwise_append]
        exact ⟨uN.imp (by intro a b h; omega), uF.imp (by intro a b h; omega), ap⟩
      · rw [out2]
        rfl
      · intro i h1 h2 hs
        simp only [List.pairwise_cons, List.mem_cons, List.not_mem_nil, or_false, forall_eq_or_imp, forall_eq] at uN uF
        have hi : i = 1 ∨ i = 2 ∨ i = 4 ∨ i = 5 := by omega
        rcases hi with rfl | rfl | rfl | rfl
        · exact uN.1.1
        · exact uN.2.1
        · exact uF.1.1
        · exact uF.2.1
    · cases h
end Ku
end Go.Proofs.Ytdhaaodalchpkaa
