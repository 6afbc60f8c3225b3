import Derived.Test.YtjlfdkeklilafabMg02
import Derived.Test.YtjlfdkeklilafabMg00
import Derived.Deep.RegionHeld3
import Derived.Lib.SliceRun
import Derived.Test.YtjlfdkeklilafabMg01
/-
  Small things about memory: lists in blocks, stores elsewhere, the least number.
-/
namespace Go.Proofs.Ytjlfdkeklilafab
open Go.RowKit

theorem getD_of {l : List Int} {i : Nat} (d : Int) (h : i < l.length) : l[i]? = some (l.getD i d) := by
  rw [List.getD_eq_getElem?_getD, List.getElem?_eq_getElem h]
  rfl

theorem OwnZ.lt {w : World} {B : Nat} {v : Value} {l : List Int} (h : OwnZ w B v l) {b : Nat} (hb : v.ownBlock = some b) : B ≤ b ∧ b < w.heap.size := World.ownsRow.lt h b hb

section
variable {w : World}
/-- A store into one of the lists, or only block p is written. -/
theorem blk_same {g b i : Nat} (hne : g ≠ b) (x : Value) : (w.setCell ⟨b, i, none⟩ x).heap[g]? = w.heap[g]? := heap_setCell_other w ⟨b, i, none⟩ g x hne

theorem OwnZ.set_far {B b i : Nat} {v : Value} {l : List Int} (h : OwnZ w B v l) (hf : v.ownBlock ≠ some b) (x : Value) : OwnZ (w.setCell ⟨b, i, none⟩ x) B v l :=
  h.same fun _ hg _ => blk_same (fun e => hf (by rw [hg, e])) x

theorem IntsBlk.set_far {g b i : Nat} {l : List Int} (h : IntsBlk w g l) (hf : g ≠ b) (x : Value) : IntsBlk (w.setCell ⟨b, i, none⟩ x) g l := (blk_same hf x).trans h
end

/-- The least number that has P; 0, if none has. -/
noncomputable def leastOf (P : Nat → Prop) : Nat := open Classical in if h : ∃ k, P k ∧ ∀ j, P j → k ≤ j then Classical.choose h else 0

theorem ex_least {P : Nat → Prop} {k : Nat} (h : P k) : ∃ k, P k ∧ ∀ j, P j → k ≤ j := by
  induction k using Nat.strongRecOn with
  | _ k ih =>
    by_cases hk : ∃ j, j < k ∧ P j
    · obtain ⟨j, hj, hp⟩ := hk
      exact ih j hj hp
    · refine ⟨k, h, fun j hj => ?_⟩
      rcases Nat.lt_or_ge j k with h1 | h1
      · exact absurd ⟨j, h1, hj⟩ hk
      · exact h1

theorem leastOf_spec {P : Nat → Prop} {k : Nat} (h : P k) : P (leastOf P) ∧ leastOf P ≤ k := by
  have hx := ex_least h
  unfold leastOf
  rw [dif_pos hx]
  have := Classical.choose_spec hx
  exact ⟨this.1, this.2 k h⟩

theorem IntsBlk.own0 {w : World} {B g n : Nat} {l : List Int} (h : IntsBlk w g l) (hB : B ≤ g) (hl : l.length = n) (hm : n ≤ 8388608) : OwnZ w B (.slice (some ⟨g, 0, none⟩) 0 n) [] := by
  subst hl
  exact ⟨by simp, .inr ⟨g, _, _, rfl, hB, h, by simp, by unfold maxLen; omega, by simp, by simp⟩⟩

theorem four_cells {w : World} {R : Nat} {t : TypeId} {a b c d : Value} (h : w.heap[R]? = some (.cells #[a, b, c, d] t (0, 0))) : w.cell? ⟨R, 0, none⟩ = some a ∧ w.cell? ⟨R, 1, none⟩ = some b ∧ w.cell? ⟨R, 2, none⟩ = some c ∧ w.cell? ⟨R, 3, none⟩ = some d ∧ ∀ i, w.frozen? ⟨R, i, none⟩ = false := by
  refine ⟨?_, ?_, ?_, ?_, fun i => ?_⟩
  · simp [World.cell?, h]
  · simp [World.cell?, h]
  · simp [World.cell?, h]
  · simp [World.cell?, h]
  · simp [World.frozen?, h]

theorem Cs.fr_ne_to {n : Nat} {es : List (Int × Int)} (hv : Si.Val n es) {h : Nat} (hh : h < 2 * es.length) : Cs.fr es h ≠ Cs.to es h := by
  obtain ⟨p, hp⟩ : ∃ p, es[h / 2]? = some p := ⟨_, List.getElem?_eq_getElem (by omega)⟩
  have ho := hv.each _ p hp
  unfold Si.ok at ho
  unfold Cs.fr Cs.to
  rw [List.getD_eq_getElem?_getD, hp]
  dsimp only [Option.getD_some]
  split <;> omega

theorem made_blk {W : World} {k M : Nat} (h : W.heap.size = k) : IntsBlk (W.alloc (.cells (madeCells #[.int .i64 0] M) 3)) k (List.replicate M 0) := by
  subst h
  unfold IntsBlk
  rw [heap_alloc_new, ← made_zeros]

theorem alloc_at {W : World} {k : Nat} {o : Obj} (h : W.heap.size = k) : (W.alloc o).heap[k]? = some o := by
  subst h
  exact heap_alloc_new W o

end Go.Proofs.Ytjlfdkeklilafab

/-
  How often each vertex is an end.
-/
namespace Go.Proofs.Ytjlfdkeklilafab
open Go.RowKit

namespace Si
theorem bump_length (l : List Int) (v : Int) : (bump l v).length = l.length := by simp [bump]

theorem degs_snoc (n : Int) (es : List (Int × Int)) (p : Int × Int) : degs n (es ++ [p]) = bump (bump (degs n es) p.1) p.2 := by simp [degs, List.foldl_append]

theorem degs_length (n : Int) (es : List (Int × Int)) : (degs n es).length = n.toNat := by
  unfold degs
  suffices h : ∀ (es : List (Int × Int)) (l : List Int), (es.foldl (fun l e => bump (bump l e.1) e.2) l).length = l.length by rw [h]; simp
  intro es
  induction es with
  | nil => intro l; rfl
  | cons e es ih => intro l; rw [List.foldl_cons, ih, bump_length, bump_length]

/-- All numbers lie between 0 and m. -/
def Upto (m : Int) (l : List Int) : Prop := ∀ (j : Nat) (x : Int), l[j]? = some x → 0 ≤ x ∧ x ≤ m

theorem Upto.bump {m : Int} {l : List Int} (h : Upto m l) (v : Int) : Upto (m + 1) (bump l v) := by
  intro j x hx
  unfold Si.bump at hx
  rw [List.getElem?_set] at hx
  by_cases hv : v.toNat = j
  · rw [if_pos hv] at hx
    split at hx
    · cases hx
      rename_i hl
      have e : l[v.toNat]? = some l[v.toNat] := List.getElem?_eq_getElem hl
      have := h _ _ e
      rw [List.getD_eq_getElem?_getD, e]
      dsimp only [Option.getD_some]
      omega
    · cases hx
  · rw [if_neg hv] at hx
    have := h j x hx
    omega

theorem degs_upto (n : Int) (es : List (Int × Int)) : Upto (2 * es.length) (degs n es) := by
  unfold degs
  suffices h : ∀ (es : List (Int × Int)) (l : List Int) (m : Int), Upto m l → Upto (m + 2 * es.length) (es.foldl (fun l e => Si.bump (Si.bump l e.1) e.2) l) by
    have := h es (List.replicate n.toNat 0) 0 (fun j x hx => by
      rw [List.getElem?_replicate] at hx
      split at hx
      · cases hx; omega
      · cases hx)
    simpa using this
  intro es
  induction es with
  | nil => intro l m h; simpa using h
  | cons e es ih =>
    intro l m h
    have := ih _ _ ((h.bump e.1).bump e.2)
    rw [List.foldl_cons]
    have e1 : m + 2 * ((e :: es).length : Int) = m + 1 + 1 + 2 * (es.length : Int) := by simp; omega
    rw [e1]
    exact this
end Si

end Go.Proofs.Ytjlfdkeklilafab

/-
  Pure: a set of edges moved into a list, one by one, and sorted.
-/
namespace Go.Proofs.Ytjlfdkeklilafab
namespace Si

theorem put_len : ∀ (l : List (Int × Int)) (e : Int × Int), l.Pairwise lt → (put l e).length = if e ∈ l then l.length else l.length + 1
  | [], e, _ => by simp [put]
  | y :: l, e, h => by
    rw [List.pairwise_cons] at h
    unfold put
    split
    · rename_i hye
      have hne : e ≠ y := (lt_ne hye).symm
      rw [List.length_cons, put_len l e h.2]
      by_cases hm : e ∈ l
      · simp [hm]
      · simp [hm, hne]
    · split
      · rename_i h2
        subst h2
        simp
      · rename_i h1 h2
        have hey : lt e y := by
          rcases lt_total y e with a | a | a
          · exact absurd a h1
          · exact absurd a h2
          · exact a
        have hn : e ∉ y :: l := fun hm => by
          rcases List.mem_cons.1 hm with a | a
          · exact h2 a.symm
          · exact lt_asymm hey (h.1 e a)
        rw [if_neg hn]
        simp

theorem made_sorted (ps : List (Int × Int)) : (made [] ps).Pairwise lt := (made_made ps).1

theorem take_snoc {ps : List (Int × Int)} {k : Nat} {p : Int × Int} (h : ps[k]? = some p) : ps.take (k + 1) = ps.take k ++ [p] := by
  have hl : k < ps.length := (List.getElem?_eq_some_iff.1 h).1
  rw [List.take_succ_eq_append_getElem hl]
  rw [List.getElem?_eq_getElem hl] at h
  cases h
  rfl

/-- The edges moved so far, by the first k pairs. -/
structure Taken (l0 ps : List (Int × Int)) (k : Nat) (acc : List (Int × Int)) : Prop where
  nodup : acc.Nodup
  mem : ∀ e, e ∈ acc ↔ e ∈ l0 ∧ ∃ p ∈ ps.take k, norm p = e

theorem Taken.start (l0 ps : List (Int × Int)) : Taken l0 ps 0 [] := ⟨List.nodup_nil, fun e => by simp⟩

theorem Taken.new {l0 ps acc : List (Int × Int)} {k : Nat} {p : Int × Int} (h : Taken l0 ps k acc) (hp : ps[k]? = some p) (h0 : norm p ∈ l0) (h1 : norm p ∉ acc) : Taken l0 ps (k + 1) (acc ++ [norm p]) := by
  refine ⟨?_, fun e => ?_⟩
  · rw [List.nodup_append]
    exact ⟨h.nodup, by simp, fun a ha b hb hab => by rw [List.mem_singleton] at hb; subst hb; subst hab; exact h1 ha⟩
  · rw [List.mem_append, List.mem_singleton, h.mem, take_snoc hp]
    constructor
    · rintro (⟨a, q, hq, e1⟩ | rfl)
      · exact ⟨a, q, List.mem_append_left _ hq, e1⟩
      · exact ⟨h0, p, by simp, rfl⟩
    · rintro ⟨a, q, hq, e1⟩
      rcases List.mem_append.1 hq with hq | hq
      · exact .inl ⟨a, q, hq, e1⟩
      · rw [List.mem_singleton] at hq
        subst hq
        exact .inr e1.symm

theorem Taken.old {l0 ps acc : List (Int × Int)} {k : Nat} {p : Int × Int} (h : Taken l0 ps k acc) (hp : ps[k]? = some p) (h1 : ¬ (norm p ∈ l0 ∧ norm p ∉ acc)) : Taken l0 ps (k + 1) acc := by
  refine ⟨h.nodup, fun e => ?_⟩
  rw [h.mem, take_snoc hp]
  constructor
  · rintro ⟨a, q, hq, e1⟩
    exact ⟨a, q, List.mem_append_left _ hq, e1⟩
  · rintro ⟨a, q, hq, e1⟩
    rcases List.mem_append.1 hq with hq | hq
    · exact ⟨a, q, hq, e1⟩
    · rw [List.mem_singleton] at hq
      subst hq
      subst e1
      by_cases ha : norm q ∈ acc
      · exact ⟨a, ((h.mem _).1 ha).2⟩
      · exact absurd ⟨a, ha⟩ h1

theorem Taken.all {ps acc : List (Int × Int)} (h : Taken (made [] ps) ps ps.length acc) (e : Int × Int) : e ∈ acc ↔ e ∈ made [] ps := by
  rw [h.mem]
  constructor
  · exact fun a => a.1
  · intro a
    obtain ⟨p, hp, _, e1⟩ := ((made_made ps).2 e).1 a
    exact ⟨a, p, by rw [List.take_length]; exact hp, e1.symm⟩

/-- Sorted, a list of just these edges, each once, is the graph's. -/
theorem sorted_made {l0 acc l : List (Int × Int)} (h0 : l0.Pairwise lt) (hn : acc.Nodup) (hm : ∀ e, e ∈ acc ↔ e ∈ l0) (hp : l.Perm acc) (hs : ∀ (i j : Nat) (a b : Int × Int), i < j → l[i]? = some a → l[j]? = some b → ¬ lt b a) : l = l0 := by
  have hnl : l.Nodup := hp.nodup_iff.2 hn
  refine sorted_ext ?_ h0 (fun e => (hp.mem_iff).trans (hm e))
  rw [List.pairwise_iff_getElem]
  intro i j hi hj hij
  have hne : l[i] ≠ l[j] := by
    intro he
    have := (List.getElem_inj hnl).1 he
    omega
  rcases lt_total l[i] l[j] with a | a | a
  · exact a
  · exact absurd a hne
  · exact absurd a (hs i j _ _ hij (List.getElem?_eq_getElem hi) (List.getElem?_eq_getElem hj))

theorem norm_in {n : Int} {p : Int × Int} (h : (0 ≤ p.1 ∧ p.1 < n) ∧ 0 ≤ p.2 ∧ p.2 < n) (hn : n ≤ 1048576) : (0 ≤ (norm p).1 ∧ (norm p).1 ≤ 1048576) ∧ 0 ≤ (norm p).2 ∧ (norm p).2 ≤ 1048576 := by
  unfold norm
  dsimp only
  omega

/-- What is made of pairs of vertices is a valid graph. -/
theorem made_val {n : Int} {ps : List (Int × Int)} (h0 : 0 ≤ n) (h1 : n ≤ 1048576) (hin : ∀ (j : Nat) (p : Int × Int), ps[j]? = some p → (0 ≤ p.1 ∧ p.1 < n) ∧ 0 ≤ p.2 ∧ p.2 < n) (hl : (made [] ps).length ≤ 4194304) : Val n (made [] ps) := by
  refine ⟨h0, h1, hl, fun j p hj => ?_, fun j p q hp hq => ?_⟩
  · obtain ⟨r, hr, hne, rfl⟩ := ((made_made ps).2 p).1 (List.mem_of_getElem? hj)
    obtain ⟨i, hi, e⟩ := List.mem_iff_getElem.1 hr
    have := hin i r (by rw [← e]; exact List.getElem?_eq_getElem hi)
    unfold ok norm
    dsimp only
    omega
  · have hs := made_sorted ps
    rw [List.pairwise_iff_getElem] at hs
    obtain ⟨hi, ei⟩ := List.getElem?_eq_some_iff.1 hp
    obtain ⟨hj, ej⟩ := List.getElem?_eq_some_iff.1 hq
    have := hs j (j + 1) hi hj (by omega)
    rw [ei, ej] at this
    exact this

end Si
end Go.Proofs.Ytjlfdkeklilafab

/-
  How many edges each vertex has, as the program and as the document count them.
-/
namespace Go.Proofs.Ytjlfdkeklilafab
open Go.RowKit Go.Sort

def DegPost (n : Int) (es : List (Int × Int)) (w : World) (e : Ending) (w' : World) : Prop :=
  ((Si.valid n es = true ∧ ∃ g m : Nat, n = (m : Int) ∧ e = .returned (.tuple #[.slice (some ⟨g, 0, none⟩) m m, .int .i64 0]) ∧ w.heap.size ≤ g ∧ IntsBlk w' g (Si.degs n es)) ∨ (Si.valid n es = false ∧ e = .returned (.tuple #[.slice none 0 0, .int .i64 1]))) ∧ Below w.heap.size w w'

theorem Si.bump_at {l : List Int} {u : Nat} {x : Int} (h : l[u]? = some x) : Si.bump l (u : Int) = l.set u (x + 1) := by
  unfold Si.bump
  rw [Int.toNat_natCast, List.getD_eq_getElem?_getD, h]
  rfl

set_option maxRecDepth 100000 in
set_option maxHeartbeats 8000000 in
theorem degrees_any (n : Int) (ao : Option Addr) (cap : Nat) (es : List (Int × Int)) (w : World) (he : EdgesAt w ao es) (hl : es.length ≤ 4611686018427387904) :
    Calls Try.prog 47 #[graphVal n ao es.length cap] w (DegPost n es w) := by
  obtain ⟨i0, hi, hz0, hz1, hz2⟩ := info_parts Try.infoNum
  have HE := Nu.hid he
  have hva := fun W (hb : Below w.heap.size w W) => valid_any n ao cap es W (he.later hb) hl
  unfold graphVal at hva ⊢
  have HVA := Nu.hid hva
  clear he hva
  have hbw0 : Below w.heap.size w (w.alloc (.cells #[.int .i64 n, .slice ao es.length cap] 24)) := (Below.refl _ _).alloc (Nat.le_refl _) _
  have HBW0 := Nu.hid hbw0
  clear hbw0
  cases hv : Si.valid n es with
  | false =>
    rw [hv] at HVA
    have HV := Nu.hid hv
    clear hv
    go_enter Try.func47, Try.ntmps47
    go_wp2_with (go_at_call 52; refine (HVA.out _ HBW0.out).mono ?_; rintro e w' ⟨rfl, hb⟩; refine Hid.out ?_)
    refine Nu.hid ?_
    have HB := Nu.hid (HBW0.out.trans (hb.mono HBW0.out.size))
    clear hb
    go_wp2
    go_ret2
    exact ⟨.inr ⟨HV.out, rfl⟩, HB.out⟩
  | true =>
    rw [hv] at HVA
    have hval := Si.valid_iff.1 hv
    have hfew := hval.few
    have hlo := hval.lo
    have hhi := hval.hi
    obtain ⟨m, rfl⟩ : ∃ m : Nat, n = (m : Int) := ⟨n.toNat, by omega⟩
    have HVAL := Nu.hid hval
    have HV := Nu.hid hv
    clear hval hv
    go_enter Try.func47, Try.ntmps47
    go_wp2_with (go_at_call 52; refine (HVA.out _ HBW0.out).mono ?_; rintro e w' ⟨rfl, hb⟩; refine Hid.out ?_)
    refine Nu.hid ?_
    have hG : w'.heap[w.heap.size]? = some (.cells #[.int .i64 m, .slice ao es.length cap] 24 (0, 0)) := (hb.block _ (by simp)).trans (heap_alloc_new w _)
    have HB := Nu.hid (HBW0.out.trans (hb.mono HBW0.out.size))
    have hsG := lt_of_block hG
    obtain ⟨g0, g1, -⟩ := pair_cells hG
    clear hb hG
    go_wp2_with (at_make; refine wpList_make_full _ rfl _ _ 39 rfl w'.heap.size 3 i0 (.int .i64 0) 1 Try.underlying39 hi hz0 hz1 _ _ _ _ m rfl rfl rfl rfl (by rw [hz2]; omega) (by unfold maxLen; omega) (Nat.le_refl _) ?_; refine Hid.out ?_)
    refine Nu.hid ?_
    intro w2 hrow hg2
    rw [made_zeros] at hrow
    have hik := ints_of_row hrow
    have hb2 : Below w'.heap.size w' w2 := (Below.refl _ _).grown hg2 (Nat.le_refl _) (fun j hj => by cases hj)
    have HB2 := Nu.hid (HB.out.trans (hb2.mono HB.out.size))
    have k1 := (hb2.cell (p := ⟨w.heap.size, 1, none⟩) hsG).trans g1
    have hs2 : w'.heap.size < w2.heap.size := hik.lt
    have HIK : Hid (IntsBlk w2 w'.heap.size (Si.degs m [])) := by
      show IntsBlk _ _ _
      have : Si.degs m [] = List.replicate m 0 := by simp [Si.degs]
      rw [this]
      exact hik
    have hwg : w.heap.size ≤ w'.heap.size := by omega
    have hsG2 : w.heap.size < w2.heap.size := by omega
    clear hrow hg2 hb2 hik g0 g1
    go_wp2
    go_loopw [16] (fun c wr => ∃ (k : Nat) (l : List Int), k ≤ es.length ∧ c = .int .i64 k ∧ l = Si.degs m (es.take k) ∧ IntsBlk wr w'.heap.size l ∧ Below w.heap.size w wr) (fun c _ => es.length - (intOf c).toNat)
    case atStart => exact ⟨0, _, Nat.zero_le _, rfl, by simp, HIK.out, HB2.out⟩
    case round =>
      obtain ⟨k, l, hk, rfl, hl0, hik, hb⟩ := hrel
      have hsw := hik.lt
      have hs0 := hb.size
      have hll : l.length = m := by rw [hl0, Si.degs_length]; simp
      have hup : Si.Upto (2 * k) l := by
        rw [hl0]
        have := Si.degs_upto m (es.take k)
        have e : (es.take k).length = k := by simp; omega
        rw [e] at this
        exact this
      have HIKR := Nu.hid hik
      have HB3 := Nu.hid hb
      have HL0 := Nu.hid hl0
      clear hl0
      by_cases hlt : k < es.length
      · have hlti : (k : Int) < (es.length : Int) := by omega
        have hk0 : (0 : Int) ≤ (k : Int) := by omega
        obtain ⟨p, hp⟩ : ∃ p, es[k]? = some p := ⟨_, List.getElem?_eq_getElem hlt⟩
        obtain ⟨b, o, rfl, c0, c1⟩ := (HE.out.later hb) k p hp
        have hbl : b < wr.heap.size := block_lt_of_cell c0
        have hsn : Si.degs m (es.take (k + 1)) = Si.bump (Si.bump l p.1) p.2 := by rw [Si.take_snoc hp, Si.degs_snoc, ← HL0.out]
        have hok := HVAL.out.each k p hp
        unfold Si.ok at hok
        obtain ⟨pu, pv⟩ := p
        dsimp only at c0 c1 hsn hok
        obtain ⟨u, rfl⟩ : ∃ u : Nat, pu = (u : Int) := ⟨pu.toNat, by omega⟩
        obtain ⟨v, rfl⟩ : ∃ v : Nat, pv = (v : Int) := ⟨pv.toNat, by omega⟩
        obtain ⟨x, hx⟩ : ∃ x, l[u]? = some x := ⟨_, List.getElem?_eq_getElem (by omega)⟩
        obtain ⟨y, hy⟩ : ∃ y, l[v]? = some y := ⟨_, List.getElem?_eq_getElem (by omega)⟩
        have hxb := hup u x hx
        have hyb := hup v y hy
        have hne : u ≠ v := by omega
        have hsn2 : Si.degs m (es.take (k + 1)) = (l.set u (x + 1)).set v (y + 1) := by
          rw [hsn, Si.bump_at hx, Si.bump_at (x := y) (by rw [List.getElem?_set, if_neg hne]; exact hy)]
        have HSN := Nu.hid hsn2
        have hcx := hik.cell hx
        have hcy := hik.cell hy
        have hfr := hik.free
        have hi1 := hik.set u (x + 1)
        have hcy1 := hi1.cell (i := v) (x := y) (by rw [List.getElem?_set, if_neg hne]; exact hy)
        have hfr1 := hi1.free
        have HI2 := Nu.hid ((hi1.set v (y + 1)).alloc (.cells #[.int .i64 u, .int .i64 v] 47))
        have u0 : (0 : Int) ≤ (u : Int) := by omega
        have v0 : (0 : Int) ≤ (v : Int) := by omega
        have um : (u : Int) < (m : Int) := by omega
        have vm : (v : Int) < (m : Int) := by omega
        clear hsn hsn2 hup hok hx hy hb hik hi1 hp
        go_wp2
        go_roundw
        case rel => exact ⟨k + 1, _, by omega, by go_num, HSN.out.symm, HI2.out, ((HB3.out.setCell (by simp; omega) _).setCell (by simp; omega) _).alloc (by simp; omega) _⟩
        case measure => simp [intOf]; omega
      · have hd : ¬ ((k : Int) < (es.length : Int)) := by omega
        have hle : l = Si.degs m es := by rw [HL0.out, List.take_of_length_le (by omega)]
        have HLE := Nu.hid hle
        clear hle hb hik hup
        go_wp2
        go_ret2
        refine ⟨.inl ⟨HV.out, w'.heap.size, m, rfl, rfl, hwg, ?_⟩, HB3.out⟩
        rw [← HLE.out]
        exact HIKR.out

theorem cell_other {w : World} {g i b o : Nat} (h : b ≠ g) (x : Value) : (w.setCell ⟨g, i, none⟩ x).cell? ⟨b, o, none⟩ = w.cell? ⟨b, o, none⟩ := by
  simp [World.cell?, heap_setCell_other w ⟨g, i, none⟩ b x h]

end Go.Proofs.Ytjlfdkeklilafab

/-
  Degrees are how many half-edges leave (pure).
-/
namespace Go.Proofs.Ytjlfdkeklilafab
open Go.RowKit

/-- How often each vertex is an end. -/
theorem Cs.degs_out {n : Nat} {es : List (Int × Int)} (hv : Si.Val n es) : ∀ k, k ≤ es.length → ∀ v, v < n → (Si.degs n (es.take k))[v]? = some ((Cs.out es v (2 * k)).length : Int) := by
  intro k
  induction k with
  | zero => intro _ v hv; simp [Si.degs, Cs.out, hv]
  | succ k ih =>
    intro hk v hvn
    obtain ⟨q, hq⟩ : ∃ q, es[k]? = some q := ⟨_, List.getElem?_eq_getElem (by omega)⟩
    have hok := hv.each k q hq
    unfold Si.ok at hok
    obtain ⟨qu, qv⟩ := q
    dsimp only at hok
    obtain ⟨a, rfl⟩ : ∃ u : Nat, qu = (u : Int) := ⟨qu.toNat, by omega⟩
    obtain ⟨b, rfl⟩ : ∃ v : Nat, qv = (v : Int) := ⟨qv.toNat, by omega⟩
    obtain ⟨e1, -⟩ := Cs.fr_even hq
    obtain ⟨e3, -⟩ := Cs.fr_odd hq
    dsimp only [Int.toNat_natCast] at e1 e3
    have h1 := ih (by omega) a (by omega)
    have h2 := ih (by omega) b (by omega)
    rw [Si.take_snoc hq, Si.degs_snoc]
    have hne : a ≠ b := by omega
    rw [Si.bump_at h1, Si.bump_at (x := ((Cs.out es b (2 * k)).length : Int)) (by rw [List.getElem?_set, if_neg hne]; exact h2)]
    have e : 2 * (k + 1) = 2 * k + 1 + 1 := by omega
    have hl := Si.degs_length n (es.take k)
    rw [e, Cs.out_len_succ, Cs.out_len_succ, e1, e3, List.getElem?_set]
    by_cases hb : b = v
    · subst hb
      rw [if_pos rfl, if_pos (by simp; omega), if_neg hne, if_pos rfl]
      congr 1
    · rw [if_neg hb, if_neg hb, List.getElem?_set]
      by_cases ha : a = v
      · subst ha
        rw [if_pos rfl, if_pos (by omega), if_pos rfl]
        congr 1
      · rw [if_neg ha, if_neg ha, ih (by omega) v hvn]
        rfl

end Go.Proofs.Ytjlfdkeklilafab

/-
  The reader: it holds lists against a graph, and gives up at the first fault.
-/
namespace Go.Proofs.Ytjlfdkeklilafab
open Go.RowKit Go.Sort

def rfaultV (v : Nat) (c : Int) : Value := .iface 53 (.agg #[.int .i64 (v : Int), .int .i64 c])

/-- Block p is a reader of the graph: the degrees at gd, what stood at gs; all laid since block B. -/
structure RdAt (w : World) (B p gd gs n : Nat) (ao : Option Addr) (ca : Nat) (es : List (Int × Int)) (f : Nat → Bool) : Prop where
  blk : w.heap[p]? = some (.cells #[.int .i64 (n : Int), .slice ao es.length ca, .slice (some ⟨gd, 0, none⟩) n n, .slice (some ⟨gs, 0, none⟩) (2 * es.length) (2 * es.length)] 69 (0, 0))
  deg : IntsBlk w gd (Si.degs n es)
  std : BoolsIn w gs (2 * es.length) f
  lo : B ≤ p ∧ B ≤ gd ∧ B ≤ gs
  ne : p ≠ gs ∧ gd ≠ gs ∧ p ≠ gd

theorem RdAt.later {w w' : World} {B p gd gs n : Nat} {ao : Option Addr} {ca : Nat} {es : List (Int × Int)} {f : Nat → Bool} (h : RdAt w B p gd gs n ao ca es f) (hb : Below w.heap.size w w') : RdAt w' B p gd gs n ao ca es f :=
  ⟨(hb.block p (lt_of_block h.blk)).trans h.blk, h.deg.later hb, h.std.later hb, h.lo, h.ne⟩

theorem RdAt.keep {w w' : World} {B p gd gs n : Nat} {ao : Option Addr} {ca : Nat} {es : List (Int × Int)} {f : Nat → Bool} (h : RdAt w B p gd gs n ao ca es f) (hb : ∀ b, b = p ∨ b = gd ∨ b = gs → w'.heap[b]? = w.heap[b]?) : RdAt w' B p gd gs n ao ca es f :=
  ⟨(hb p (.inl rfl)).trans h.blk, (hb gd (.inr (.inl rfl))).trans h.deg, (hb gs (.inr (.inr rfl))).trans h.std, h.lo, h.ne⟩

theorem RdAt.set {w : World} {B p gd gs n : Nat} {ao : Option Addr} {ca : Nat} {es : List (Int × Int)} {f : Nat → Bool} (h : RdAt w B p gd gs n ao ca es f) (j : Nat) (y : Bool) : RdAt (w.setCell ⟨gs, j, none⟩ (.bool y)) B p gd gs n ao ca es (Co.updB f j y) :=
  ⟨(blk_same h.ne.1 _).trans h.blk, h.deg.set_far h.ne.2.1 _, h.std.set j y, h.lo, h.ne⟩

theorem below_setCell {w : World} {B g j : Nat} (x : Value) (h : B ≤ g) : Below B w (w.setCell ⟨g, j, none⟩ x) :=
  ⟨rfl, rfl, rfl, by simp, fun k hk => heap_setCell_other w ⟨g, j, none⟩ k x (by show k ≠ g; omega)⟩

def StandPost (B p gd gs n : Nat) (ao : Option Addr) (ca : Nat) (es : List (Int × Int)) (f : Nat → Bool) (v : Nat) (h : Int) (w : World) (e : Ending) (w' : World) : Prop :=
  Wrote (fun b => b = gs) w w' ∧ ((Ro.lv es h v = false ∧ e = .panicked [{ v := rfaultV v 111, recovered := false }]) ∨ (Ro.lv es h v = true ∧ f h.toNat = true ∧ e = .panicked [{ v := rfaultV v 112, recovered := false }]) ∨
    (Ro.lv es h v = true ∧ f h.toNat = false ∧ e = .returned (.tuple #[]) ∧ RdAt w' B p gd gs n ao ca es (Co.updB f h.toNat true)))

set_option maxRecDepth 100000 in
set_option maxHeartbeats 4000000 in
theorem stand_any (B p gd gs n : Nat) (ao : Option Addr) (ca : Nat) (es : List (Int × Int)) (f : Nat → Bool) (v : Nat) (h : Int) (w : World) (hr : RdAt w B p gd gs n ao ca es f) (he : EdgesAt w ao es) (hv : Si.Val n es) :
    Calls Try.prog 38 #[.pointer (some ⟨p, 0, none⟩), .int .i64 (v : Int), .int .i64 h] w (StandPost B p gd gs n ao ca es f v h w) := by
  have HL := Nu.hid (leaves_any n ao ca es h v w he hv)
  obtain ⟨c0, c1, c2, c3, -⟩ := four_cells hr.blk
  have hpl := lt_of_block hr.blk
  have HR := Nu.hid hr
  have hfew := hv.few
  clear hr he hv
  cases hlv : Ro.lv es h v with
  | false =>
    rw [hlv] at HL
    have HLV := Nu.hid hlv
    clear hlv
    go_enter Try.func38, Try.ntmps38
    go_wp2_with (go_at_call 50; refine HL.out.mono ?_; rintro e w1 ⟨rfl, hb1⟩)
    exact ⟨rfl, (Wrote.refl _ _).later hb1, .inl ⟨HLV.out, rfl⟩⟩
  | true =>
    rw [hlv] at HL
    obtain ⟨j, rfl, hj⟩ : ∃ j : Nat, h = (j : Int) ∧ j < 2 * es.length := by
      unfold Ro.lv at hlv
      simp at hlv
      exact ⟨h.toNat, by omega, by omega⟩
    have HLV := Nu.hid hlv
    clear hlv
    have hj2 : (j : Int) < 2 * (es.length : Int) := by omega
    have HJ := Nu.hid hj
    clear hj
    go_enter Try.func38, Try.ntmps38
    go_wp2_with (go_at_call 50; refine HL.out.mono ?_; rintro e w1 ⟨rfl, hb1⟩; refine Hid.out ?_)
    refine Nu.hid ?_
    have hr1 := HR.out.later hb1
    have HB1 := Nu.hid ((Wrote.refl (fun b => b = gs) w).later hb1)
    clear c0 c1 c2 c3 hb1
    obtain ⟨c0, c1, c2, c3, -⟩ := four_cells hr1.blk
    have cs := hr1.std.cell HJ.out
    have cf := hr1.std.free j
    have HR1 := Nu.hid hr1
    clear hr1
    cases hf : f j with
    | true =>
      rw [hf] at cs
      go_wp2
      exact ⟨rfl, HB1.out, .inr (.inl ⟨HLV.out, hf, rfl⟩)⟩
    | false =>
      rw [hf] at cs
      have HF := Nu.hid hf
      clear hf
      go_wp2
      go_end0
      exact ⟨HB1.out.setCell rfl _, .inr (.inr ⟨HLV.out, HF.out, rfl, HR1.out.set j true⟩)⟩

def EndPost (es : List (Int × Int)) (v k : Nat) (w : World) (e : Ending) (w' : World) : Prop :=
  w' = w ∧ ((k < Ro.deg es v ∧ e = .panicked [{ v := rfaultV v 113, recovered := false }]) ∨ (¬ k < Ro.deg es v ∧ e = .returned (.tuple #[])))

set_option maxRecDepth 100000 in
set_option maxHeartbeats 4000000 in
theorem rend_any (B p gd gs n : Nat) (ao : Option Addr) (ca : Nat) (es : List (Int × Int)) (f : Nat → Bool) (v k : Nat) (w : World) (hr : RdAt w B p gd gs n ao ca es f) (hv : Si.Val n es) (hvn : v < n) :
    Calls Try.prog 39 #[.pointer (some ⟨p, 0, none⟩), .int .i64 (v : Int), .int .i64 (k : Int)] w (EndPost es v k w) := by
  obtain ⟨c0, c1, c2, c3, -⟩ := four_cells hr.blk
  have hd : (Si.degs n es)[v]? = some (Ro.deg es v : Int) := by
    have := Cs.degs_out hv es.length (Nat.le_refl _) v hvn
    rw [List.take_length] at this
    exact this
  have cd := hr.deg.cell hd
  have hvn2 : (v : Int) < (n : Int) := by omega
  obtain ⟨D, hD⟩ : ∃ D, D = Ro.deg es v := ⟨_, rfl⟩
  unfold EndPost
  rw [← hD] at cd ⊢
  clear hr hd hv hD
  by_cases hk : k < D
  · have hk2 : (k : Int) < (D : Int) := by omega
    go_enter Try.func39, Try.ntmps39
    go_wp2
    exact ⟨rfl, rfl, .inl ⟨hk, rfl⟩⟩
  · have hk2 : ¬ (k : Int) < (D : Int) := by omega
    go_enter Try.func39, Try.ntmps39
    go_wp2
    go_end0
    exact ⟨rfl, rfl⟩

end Go.Proofs.Ytjlfdkeklilafab

/-
  A reader that begins.
-/
namespace Go.Proofs.Ytjlfdkeklilafab
open Go.RowKit Go.Sort

def NewRdPost (n : Int) (ao : Option Addr) (ca : Nat) (es : List (Int × Int)) (k : Nat) (w : World) (e : Ending) (w' : World) : Prop :=
  Below w.heap.size w w' ∧ ((Si.valid n es = false ∧ e = .panicked [{ v := rfaultV 0 1, recovered := false }]) ∨ (Si.valid n es = true ∧ (k : Int) ≠ n ∧ e = .panicked [{ v := rfaultV 0 110, recovered := false }]) ∨
    (Si.valid n es = true ∧ (k : Int) = n ∧ ∃ p gd gs, e = .returned (.pointer (some ⟨p, 0, none⟩)) ∧ RdAt w' w.heap.size p gd gs k ao ca es (fun _ => false)))

set_option maxRecDepth 100000 in
set_option maxHeartbeats 8000000 in
theorem newReader_any (n : Int) (ao : Option Addr) (ca : Nat) (es : List (Int × Int)) (k : Nat) (w : World) (he : EdgesAt w ao es) (hl : es.length ≤ 4611686018427387904) :
    Calls Try.prog 34 #[graphVal n ao es.length ca, .int .i64 (k : Int)] w (NewRdPost n ao ca es k w) := by
  have hb0 : Below w.heap.size w (w.alloc (.cells #[.int .i64 n, .slice ao es.length ca] 24)) := (Below.refl _ _).alloc (Nat.le_refl _) _
  have HD := Nu.hid (degrees_any n ao ca es _ (he.later hb0) hl)
  have HB0 := Nu.hid hb0
  obtain ⟨i0, hi, hz0, hz1, hz2⟩ := info_parts Try.infoBool
  unfold graphVal at HD ⊢
  clear he hb0
  go_enter Try.func34, Try.ntmps34
  go_wp2_with (go_at_call 47; refine HD.out.mono ?_; refine Hid.out ?_)
  refine Nu.hid ?_
  rintro e w1 ⟨hp, hb1⟩
  have hG : w1.heap[w.heap.size]? = some (.cells #[.int .i64 n, .slice ao es.length ca] 24 (0, 0)) := (hb1.block _ (by simp)).trans (heap_alloc_new w _)
  have HB1 := Nu.hid (HB0.out.trans (hb1.mono HB0.out.size))
  obtain ⟨g0, g1, -⟩ := pair_cells hG
  have hsG := lt_of_block hG
  have hs1 : (w.alloc (.cells #[.int .i64 n, .slice ao es.length ca] 24)).heap.size ≤ w1.heap.size := hb1.size
  rw [World.size_alloc] at hs1
  have HG := Nu.hid hG
  clear hb1 hG
  rcases hp with ⟨hv, g, m, rfl, rfl, hg, hint⟩ | ⟨hv, rfl⟩
  · have hval := Si.valid_iff.1 hv
    have hfew := hval.few
    have hlo := hval.lo
    have hhi := hval.hi
    have HV := Nu.hid hv
    have HI := Nu.hid hint
    have hgl := hint.lt
    have HGE := Nu.hid hg
    clear hv hval hint hg
    by_cases hk : k = m
    · subst hk
      obtain ⟨M, hM⟩ : ∃ M, M = 2 * es.length := ⟨_, rfl⟩
      have hmul : IntKind.i64.wrap (2 * (es.length : Int)) = (M : Int) := by rw [IntKind.wrap_i64]; omega
      have hmul2 : 2 * (es.length : Int) = (M : Int) := by omega
      have hMb : M ≤ 8388608 := by omega
      have hM0 : ¬ (M : Int) < 0 := by omega
      have hmk : ∀ W, (Instr.makeSlice 67 (.int .i64 (M : Int)) (.int .i64 (M : Int))).run Try.prog W = .ok (.slice (some ⟨W.heap.size, 0, none⟩) M M) (W.alloc (.cells (madeCells #[.bool false] M) 4)) := fun W => by
        have := run_make (P := Try.prog) W 67 4 i0 (.bool false) Try.underlying67 hi hz0 .i64 .i64 (M : Int) (M : Int) (by omega) (by omega) (by rw [hz2]; omega) (by omega)
        rw [this, hz1]
        simp [Value.cells]
      have HMM := Nu.hid hM
      clear hM hi hz0 hz1 hz2
      go_wp2_with fail
      go_region
      all_goals
        clear hmk
        go_wp2
        go_ret
        have HH := HI.out
        have hB1 := HB1.out
        have hge := HGE.out
        rw [World.size_alloc] at hge
        obtain rfl := HMM.out
        have hA := ((hB1.alloc (by omega) (.cells (madeCells #[.bool false] (2 * es.length)) 4)).alloc (by simp; omega) (.cells #[.int .i64 (k : Int), .slice ao es.length ca, .slice (some ⟨g, 0, none⟩) k k, .slice (some ⟨w1.heap.size, 0, none⟩) (2 * es.length) (2 * es.length)] 69))
        refine ⟨?_, .inr (.inr ⟨HV.out, rfl, w1.heap.size + 1, g, w1.heap.size, rfl, ?_, ?_, ?_, ?_, ?_⟩)⟩
        · first | exact hA | exact hA.drew
        · exact alloc_at (by simp)
        · exact (HH.alloc _).alloc _
        · refine BoolsIn.same (made_bools (W := w1) rfl (2 * es.length)) ?_
          exact Below.heap_alloc _ _ _ (by simp)
        · exact ⟨by omega, by omega, by omega⟩
        · exact ⟨by omega, by omega, by omega⟩
    · have hk2 : ¬ (k : Int) = (m : Int) := by omega
      have hk3 : ((k : Int) != (m : Int)) = true := by simp; omega
      have HK := Nu.hid hk
      clear hk
      go_wp2
      exact ⟨rfl, HB1.out, .inr (.inl ⟨HV.out, hk2, rfl⟩)⟩
  · have HV := Nu.hid hv
    clear hv
    go_wp2
    exact ⟨rfl, HB1.out, .inl ⟨HV.out, rfl⟩⟩

end Go.Proofs.Ytjlfdkeklilafab
