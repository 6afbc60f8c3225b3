import Derived.Test.YtfkmldopfhdbkaaMg02
import Derived.Test.YtfkmldopfhdbkaaMg04
import Derived.Test.YtfkmldopfhdbkaaMg01
import Derived.Test.YtfkmldopfhdbkaaMg03
/-
  Pure: a set of edges moved into a list, one by one, and sorted.
-/
namespace Go.Proofs.Ytfkmldopfhdbkaa
namespace Si

theorem put_len : ∀ (l : List (Int × Int)) (e : Int × Int), l.Pairwise lt → (put l e).length = if e ∈ l then l.length else l.length + 1
  | [], e, _ => by simp [put]
  | y :: l, e, h => by
    rw [List.pairwise_cons] at h
    unfold put
    split
    · rename_i hye
      have hne : e ≠ y := (lt_ne hye).symm
      rw [List.length_cons, put_len l e h.2]
      by_cases hm : e ∈ l
      · simp [hm]
      · simp [hm, hne]
    · split
      · rename_i h2
        subst h2
        simp
      · rename_i h1 h2
        have hey : lt e y := by
          rcases lt_total y e with a | a | a
          · exact absurd a h1
          · exact absurd a h2
          · exact a
        have hn : e ∉ y :: l := fun hm => by
          rcases List.mem_cons.1 hm with a | a
          · exact h2 a.symm
          · exact lt_asymm hey (h.1 e a)
        rw [if_neg hn]
        simp

theorem made_sorted (ps : List (Int × Int)) : (made [] ps).Pairwise lt := (made_made ps).1

theorem take_snoc {ps : List (Int × Int)} {k : Nat} {p : Int × Int} (h : ps[k]? = some p) : ps.take (k + 1) = ps.take k ++ [p] := by
  have hl : k < ps.length := (List.getElem?_eq_some_iff.1 h).1
  rw [List.take_succ_eq_append_getElem hl]
  rw [List.getElem?_eq_getElem hl] at h
  cases h
  rfl

/-- The edges moved so far, by the first k pairs. -/
structure Taken (l0 ps : List (Int × Int)) (k : Nat) (acc : List (Int × Int)) : Prop where
  nodup : acc.Nodup
  mem : ∀ e, e ∈ acc ↔ e ∈ l0 ∧ ∃ p ∈ ps.take k, norm p = e

theorem Taken.start (l0 ps : List (Int × Int)) : Taken l0 ps 0 [] := ⟨List.nodup_nil, fun e => by simp⟩

theorem Taken.new {l0 ps acc : List (Int × Int)} {k : Nat} {p : Int × Int} (h : Taken l0 ps k acc) (hp : ps[k]? = some p) (h0 : norm p ∈ l0) (h1 : norm p ∉ acc) : Taken l0 ps (k + 1) (acc ++ [norm p]) := by
  refine ⟨?_, fun e => ?_⟩
  · rw [List.nodup_append]
    exact ⟨h.nodup, by simp, fun a ha b hb hab => by rw [List.mem_singleton] at hb; subst hb; subst hab; exact h1 ha⟩
  · rw [List.mem_append, List.mem_singleton, h.mem, take_snoc hp]
    constructor
    · rintro (⟨a, q, hq, e1⟩ | rfl)
      · exact ⟨a, q, List.mem_append_left _ hq, e1⟩
      · exact ⟨h0, p, by simp, rfl⟩
    · rintro ⟨a, q, hq, e1⟩
      rcases List.mem_append.1 hq with hq | hq
      · exact .inl ⟨a, q, hq, e1⟩
      · rw [List.mem_singleton] at hq
        subst hq
        exact .inr e1.symm

theorem Taken.old {l0 ps acc : List (Int × Int)} {k : Nat} {p : Int × Int} (h : Taken l0 ps k acc) (hp : ps[k]? = some p) (h1 : ¬ (norm p ∈ l0 ∧ norm p ∉ acc)) : Taken l0 ps (k + 1) acc := by
  refine ⟨h.nodup, fun e => ?_⟩
  rw [h.mem, take_snoc hp]
  constructor
  · rintro ⟨a, q, hq, e1⟩
    exact ⟨a, q, List.mem_append_left _ hq, e1⟩
  · rintro ⟨a, q, hq, e1⟩
    rcases List.mem_append.1 hq with hq | hq
    · exact ⟨a, q, hq, e1⟩
    · rw [List.mem_singleton] at hq
      subst hq
      subst e1
      by_cases ha : norm q ∈ acc
      · exact ⟨a, ((h.mem _).1 ha).2⟩
      · exact absurd ⟨a, ha⟩ h1

theorem Taken.all {ps acc : List (Int × Int)} (h : Taken (made [] ps) ps ps.length acc) (e : Int × Int) : e ∈ acc ↔ e ∈ made [] ps := by
  rw [h.mem]
  constructor
  · exact fun a => a.1
  · intro a
    obtain ⟨p, hp, _, e1⟩ := ((made_made ps).2 e).1 a
    exact ⟨a, p, by rw [List.take_length]; exact hp, e1.symm⟩

/-- Sorted, a list of just these edges, each once, is the graph's. -/
theorem sorted_made {l0 acc l : List (Int × Int)} (h0 : l0.Pairwise lt) (hn : acc.Nodup) (hm : ∀ e, e ∈ acc ↔ e ∈ l0) (hp : l.Perm acc) (hs : ∀ (i j : Nat) (a b : Int × Int), i < j → l[i]? = some a → l[j]? = some b → ¬ lt b a) : l = l0 := by
  have hnl : l.Nodup := hp.nodup_iff.2 hn
  refine sorted_ext ?_ h0 (fun e => (hp.mem_iff).trans (hm e))
  rw [List.pairwise_iff_getElem]
  intro i j hi hj hij
  have hne : l[i] ≠ l[j] := by
    intro he
    have := (List.getElem_inj hnl).1 he
    omega
  rcases lt_total l[i] l[j] with a | a | a
  · exact a
  · exact absurd a hne
  · exact absurd a (hs i j _ _ hij (List.getElem?_eq_getElem hi) (List.getElem?_eq_getElem hj))

theorem norm_in {n : Int} {p : Int × Int} (h : (0 ≤ p.1 ∧ p.1 < n) ∧ 0 ≤ p.2 ∧ p.2 < n) (hn : n ≤ 1048576) : (0 ≤ (norm p).1 ∧ (norm p).1 ≤ 1048576) ∧ 0 ≤ (norm p).2 ∧ (norm p).2 ≤ 1048576 := by
  unfold norm
  dsimp only
  omega

/-- What is made of pairs of vertices is a valid graph. -/
theorem made_val {n : Int} {ps : List (Int × Int)} (h0 : 0 ≤ n) (h1 : n ≤ 1048576) (hin : ∀ (j : Nat) (p : Int × Int), ps[j]? = some p → (0 ≤ p.1 ∧ p.1 < n) ∧ 0 ≤ p.2 ∧ p.2 < n) (hl : (made [] ps).length ≤ 4194304) : Val n (made [] ps) := by
  refine ⟨h0, h1, hl, fun j p hj => ?_, fun j p q hp hq => ?_⟩
  · obtain ⟨r, hr, hne, rfl⟩ := ((made_made ps).2 p).1 (List.mem_of_getElem? hj)
    obtain ⟨i, hi, e⟩ := List.mem_iff_getElem.1 hr
    have := hin i r (by rw [← e]; exact List.getElem?_eq_getElem hi)
    unfold ok norm
    dsimp only
    omega
  · have hs := made_sorted ps
    rw [List.pairwise_iff_getElem] at hs
    obtain ⟨hi, ei⟩ := List.getElem?_eq_some_iff.1 hp
    obtain ⟨hj, ej⟩ := List.getElem?_eq_some_iff.1 hq
    have := hs j (j + 1) hi hj (by omega)
    rw [ei, ej] at this
    exact this

end Si
end Go.Proofs.Ytfkmldopfhdbkaa

/-
  How many edges each vertex has, as the program and as the document count them.
-/
namespace Go.Proofs.Ytfkmldopfhdbkaa
open Go.RowKit Go.Sort

def DegPost (n : Int) (es : List (Int × Int)) (w : World) (e : Ending) (w' : World) : Prop :=
  ((Si.valid n es = true ∧ ∃ g m : Nat, n = (m : Int) ∧ e = .returned (.tuple #[.slice (some ⟨g, 0, none⟩) m m, .int .i64 0]) ∧ w.heap.size ≤ g ∧ IntsBlk w' g (Si.degs n es)) ∨ (Si.valid n es = false ∧ e = .returned (.tuple #[.slice none 0 0, .int .i64 1]))) ∧ Below w.heap.size w w'

theorem Si.bump_at {l : List Int} {u : Nat} {x : Int} (h : l[u]? = some x) : Si.bump l (u : Int) = l.set u (x + 1) := by
  unfold Si.bump
  rw [Int.toNat_natCast, List.getD_eq_getElem?_getD, h]
  rfl

set_option maxRecDepth 100000 in
set_option maxHeartbeats 8000000 in
theorem degrees_any (n : Int) (ao : Option Addr) (cap : Nat) (es : List (Int × Int)) (w : World) (he : EdgesAt w ao es) (hl : es.length ≤ 4611686018427387904) :
    Calls Try.prog 44 #[graphVal n ao es.length cap] w (DegPost n es w) := by
  obtain ⟨i0, hi, hz0, hz1, hz2⟩ := info_parts Try.infoNum
  have HE := Nu.hid he
  have hva := fun W (hb : Below w.heap.size w W) => valid_any n ao cap es W (he.later hb) hl
  unfold graphVal at hva ⊢
  have HVA := Nu.hid hva
  clear he hva
  have hbw0 : Below w.heap.size w (w.alloc (.cells #[.int .i64 n, .slice ao es.length cap] 24)) := (Below.refl _ _).alloc (Nat.le_refl _) _
  have HBW0 := Nu.hid hbw0
  clear hbw0
  cases hv : Si.valid n es with
  | false =>
    rw [hv] at HVA
    have HV := Nu.hid hv
    clear hv
    go_enter Try.func44, Try.ntmps44
    go_wp2_with (go_at_call 39; refine (HVA.out _ HBW0.out).mono ?_; rintro e w' ⟨rfl, hb⟩; refine Hid.out ?_)
    refine Nu.hid ?_
    have HB := Nu.hid (HBW0.out.trans (hb.mono HBW0.out.size))
    clear hb
    go_wp2
    go_ret2
    exact ⟨.inr ⟨HV.out, rfl⟩, HB.out⟩
  | true =>
    rw [hv] at HVA
    have hval := Si.valid_iff.1 hv
    have hfew := hval.few
    have hlo := hval.lo
    have hhi := hval.hi
    obtain ⟨m, rfl⟩ : ∃ m : Nat, n = (m : Int) := ⟨n.toNat, by omega⟩
    have HVAL := Nu.hid hval
    have HV := Nu.hid hv
    clear hval hv
    go_enter Try.func44, Try.ntmps44
    go_wp2_with (go_at_call 39; refine (HVA.out _ HBW0.out).mono ?_; rintro e w' ⟨rfl, hb⟩; refine Hid.out ?_)
    refine Nu.hid ?_
    have hG : w'.heap[w.heap.size]? = some (.cells #[.int .i64 m, .slice ao es.length cap] 24 (0, 0)) := (hb.block _ (by simp)).trans (heap_alloc_new w _)
    have HB := Nu.hid (HBW0.out.trans (hb.mono HBW0.out.size))
    have hsG := lt_of_block hG
    obtain ⟨g0, g1, -⟩ := pair_cells hG
    clear hb hG
    go_wp2_with (at_make; refine wpList_make_full _ rfl _ _ 36 rfl w'.heap.size 3 i0 (.int .i64 0) 1 Try.underlying36 hi hz0 hz1 _ _ _ _ m rfl rfl rfl rfl (by rw [hz2]; omega) (by unfold maxLen; omega) (Nat.le_refl _) ?_; refine Hid.out ?_)
    refine Nu.hid ?_
    intro w2 hrow hg2
    rw [made_zeros] at hrow
    have hik := ints_of_row hrow
    have hb2 : Below w'.heap.size w' w2 := (Below.refl _ _).grown hg2 (Nat.le_refl _) (fun j hj => by cases hj)
    have HB2 := Nu.hid (HB.out.trans (hb2.mono HB.out.size))
    have k1 := (hb2.cell (p := ⟨w.heap.size, 1, none⟩) hsG).trans g1
    have hs2 : w'.heap.size < w2.heap.size := hik.lt
    have HIK : Hid (IntsBlk w2 w'.heap.size (Si.degs m [])) := by
      show IntsBlk _ _ _
      have : Si.degs m [] = List.replicate m 0 := by simp [Si.degs]
      rw [this]
      exact hik
    have hwg : w.heap.size ≤ w'.heap.size := by omega
    have hsG2 : w.heap.size < w2.heap.size := by omega
    clear hrow hg2 hb2 hik g0 g1
    go_wp2
    go_loopw [16] (fun c wr => ∃ (k : Nat) (l : List Int), k ≤ es.length ∧ c = .int .i64 k ∧ l = Si.degs m (es.take k) ∧ IntsBlk wr w'.heap.size l ∧ Below w.heap.size w wr) (fun c _ => es.length - (intOf c).toNat)
    case atStart => exact ⟨0, _, Nat.zero_le _, rfl, by simp, HIK.out, HB2.out⟩
    case round =>
      obtain ⟨k, l, hk, rfl, hl0, hik, hb⟩ := hrel
      have hsw := hik.lt
      have hs0 := hb.size
      have hll : l.length = m := by rw [hl0, Si.degs_length]; simp
      have hup : Si.Upto (2 * k) l := by
        rw [hl0]
        have := Si.degs_upto m (es.take k)
        have e : (es.take k).length = k := by simp; omega
        rw [e] at this
        exact this
      have HIKR := Nu.hid hik
      have HB3 := Nu.hid hb
      have HL0 := Nu.hid hl0
      clear hl0
      by_cases hlt : k < es.length
      · have hlti : (k : Int) < (es.length : Int) := by omega
        have hk0 : (0 : Int) ≤ (k : Int) := by omega
        obtain ⟨p, hp⟩ : ∃ p, es[k]? = some p := ⟨_, List.getElem?_eq_getElem hlt⟩
        obtain ⟨b, o, rfl, c0, c1⟩ := (HE.out.later hb) k p hp
        have hbl : b < wr.heap.size := block_lt_of_cell c0
        have hsn : Si.degs m (es.take (k + 1)) = Si.bump (Si.bump l p.1) p.2 := by rw [Si.take_snoc hp, Si.degs_snoc, ← HL0.out]
        have hok := HVAL.out.each k p hp
        unfold Si.ok at hok
        obtain ⟨pu, pv⟩ := p
        dsimp only at c0 c1 hsn hok
        obtain ⟨u, rfl⟩ : ∃ u : Nat, pu = (u : Int) := ⟨pu.toNat, by omega⟩
        obtain ⟨v, rfl⟩ : ∃ v : Nat, pv = (v : Int) := ⟨pv.toNat, by omega⟩
        obtain ⟨x, hx⟩ : ∃ x, l[u]? = some x := ⟨_, List.getElem?_eq_getElem (by omega)⟩
        obtain ⟨y, hy⟩ : ∃ y, l[v]? = some y := ⟨_, List.getElem?_eq_getElem (by omega)⟩
        have hxb := hup u x hx
        have hyb := hup v y hy
        have hne : u ≠ v := by omega
        have hsn2 : Si.degs m (es.take (k + 1)) = (l.set u (x + 1)).set v (y + 1) := by
          rw [hsn, Si.bump_at hx, Si.bump_at (x := y) (by rw [List.getElem?_set, if_neg hne]; exact hy)]
        have HSN := Nu.hid hsn2
        have hcx := hik.cell hx
        have hcy := hik.cell hy
        have hfr := hik.free
        have hi1 := hik.set u (x + 1)
        have hcy1 := hi1.cell (i := v) (x := y) (by rw [List.getElem?_set, if_neg hne]; exact hy)
        have hfr1 := hi1.free
        have HI2 := Nu.hid ((hi1.set v (y + 1)).alloc (.cells #[.int .i64 u, .int .i64 v] 56))
        have u0 : (0 : Int) ≤ (u : Int) := by omega
        have v0 : (0 : Int) ≤ (v : Int) := by omega
        have um : (u : Int) < (m : Int) := by omega
        have vm : (v : Int) < (m : Int) := by omega
        clear hsn hsn2 hup hok hx hy hb hik hi1 hp
        go_wp2
        go_roundw
        case rel => exact ⟨k + 1, _, by omega, by go_num, HSN.out.symm, HI2.out, ((HB3.out.setCell (by simp; omega) _).setCell (by simp; omega) _).alloc (by simp; omega) _⟩
        case measure => simp [intOf]; omega
      · have hd : ¬ ((k : Int) < (es.length : Int)) := by omega
        have hle : l = Si.degs m es := by rw [HL0.out, List.take_of_length_le (by omega)]
        have HLE := Nu.hid hle
        clear hle hb hik hup
        go_wp2
        go_ret2
        refine ⟨.inl ⟨HV.out, w'.heap.size, m, rfl, rfl, hwg, ?_⟩, HB3.out⟩
        rw [← HLE.out]
        exact HIKR.out

theorem cell_other {w : World} {g i b o : Nat} (h : b ≠ g) (x : Value) : (w.setCell ⟨g, i, none⟩ x).cell? ⟨b, o, none⟩ = w.cell? ⟨b, o, none⟩ := by
  simp [World.cell?, heap_setCell_other w ⟨g, i, none⟩ b x h]

end Go.Proofs.Ytfkmldopfhdbkaa

/-
  Which vertices are met by edges.
-/
namespace Go.Proofs.Ytfkmldopfhdbkaa
open Go.RowKit Go.Sort

/-- Is v an end of an edge? -/
def Co.met (es : List (Int × Int)) (v : Nat) : Bool := es.any fun e => e.1 == (v : Int) || e.2 == (v : Int)

theorem Co.met_snoc (es : List (Int × Int)) (p : Int × Int) (v : Nat) : Co.met (es ++ [p]) v = (Co.met es v || (p.1 == (v : Int) || p.2 == (v : Int))) := by simp [Co.met]

theorem Co.degs_met {m : Nat} {es : List (Int × Int)} (hv : Si.Val m es) : ∀ k, k ≤ es.length → ∀ v, v < m → ∃ x : Int, (Si.degs m (es.take k))[v]? = some x ∧ 0 ≤ x ∧ (x = 0 ↔ Co.met (es.take k) v = false) := by
  intro k
  induction k with
  | zero => intro _ v hvm; exact ⟨0, by simp [Si.degs, hvm], Int.le_refl _, by simp [Co.met]⟩
  | succ k ih =>
    intro hk v hvm
    obtain ⟨q, hq⟩ : ∃ q, es[k]? = some q := ⟨_, List.getElem?_eq_getElem (by omega)⟩
    have hok := hv.each k q hq
    unfold Si.ok at hok
    obtain ⟨qu, qv⟩ := q
    dsimp only at hok
    obtain ⟨a, rfl⟩ : ∃ u : Nat, qu = (u : Int) := ⟨qu.toNat, by omega⟩
    obtain ⟨b, rfl⟩ : ∃ v : Nat, qv = (v : Int) := ⟨qv.toNat, by omega⟩
    obtain ⟨x, h1, x0, hx⟩ := ih (by omega) v hvm
    obtain ⟨xa, ha1, xa0, -⟩ := ih (by omega) a (by omega)
    obtain ⟨xb, hb1, xb0, -⟩ := ih (by omega) b (by omega)
    rw [Si.take_snoc hq, Si.degs_snoc, Co.met_snoc]
    have hne : a ≠ b := by omega
    rw [Si.bump_at ha1, Si.bump_at (x := xb) (by rw [List.getElem?_set, if_neg hne]; exact hb1)]
    have hl := Si.degs_length m (es.take k)
    rw [List.getElem?_set]
    by_cases hb : b = v
    · subst hb
      rw [if_pos rfl, if_pos (by simp; omega)]
      refine ⟨_, rfl, by omega, ?_⟩
      have : ¬ (xb + 1 = 0) := by omega
      simp [this]
    · rw [if_neg hb, List.getElem?_set]
      by_cases ha : a = v
      · subst ha
        rw [if_pos rfl, if_pos (by omega)]
        refine ⟨_, rfl, by omega, ?_⟩
        have : ¬ (xa + 1 = 0) := by omega
        simp [this]
      · rw [if_neg ha]
        refine ⟨x, h1, x0, ?_⟩
        rw [hx]
        have e1 : ((a : Int) == (v : Int)) = false := by simp; omega
        have e2 : ((b : Int) == (v : Int)) = false := by simp; omega
        dsimp only
        rw [e1, e2]
        simp

end Go.Proofs.Ytfkmldopfhdbkaa

/-
  Faces, pure: the permutation of a rotation; its orbits are the vertices; Euler's formula of a rotation; each component's parity.
-/
namespace Go.Proofs.Ytfkmldopfhdbkaa
namespace Fa
open Pl Co

theorem cntTo_filter (p : Nat → Bool) : ∀ n, cntTo p n = ((List.range n).filter p).length
  | 0 => rfl
  | n + 1 => by
    rw [List.range_succ, List.filter_append, List.length_append, ← cntTo_filter p n]
    show cntTo p n + (if p n = true then 1 else 0) = _
    by_cases h : p n = true
    · simp [h]
    · simp [h]
theorem cntTo_inj {p q : Nat → Bool} {f : Nat → Nat} {n m : Nat} (hm : ∀ a, a < n → p a = true → f a < m ∧ q (f a) = true) (hi : ∀ a b, a < n → b < n → p a = true → p b = true → f a = f b → a = b) : cntTo p n ≤ cntTo q m := by
  rw [cntTo_filter, cntTo_filter]
  have h1 : ((List.range n).filter p).length = (((List.range n).filter p).map f).length := by rw [List.length_map]
  rw [h1]
  refine nodup_in ?_ (fun x hx => ?_)
  · unfold List.Nodup
    rw [List.pairwise_map]
    have hn : ((List.range n).filter p).Nodup := List.Pairwise.filter _ List.nodup_range
    refine List.Pairwise.imp_of_mem ?_ hn
    intro a b ha hb hne e
    rw [List.mem_filter, List.mem_range] at ha hb
    exact hne (hi a b ha.1 hb.1 ha.2 hb.2 e)
  · obtain ⟨a, ha, rfl⟩ := List.mem_map.1 hx
    rw [List.mem_filter, List.mem_range] at ha
    rw [List.mem_filter, List.mem_range]
    exact hm a ha.1 ha.2
theorem cntTo_not (p : Nat → Bool) : ∀ n, cntTo p n + cntTo (fun v => !p v) n = n
  | 0 => rfl
  | n + 1 => by
    have := cntTo_not p n
    show cntTo p n + (if p n = true then 1 else 0) + (cntTo (fun v => !p v) n + (if (!p n) = true then 1 else 0)) = n + 1
    by_cases h : p n = true
    · simp [h]; omega
    · simp [h]; omega

/-- The next half-edge round the vertex. -/
def sg (es : List (Int × Int)) (ls : List (List Int)) (h : Nat) : Nat := ((Ro.nextL es ls).getD h 0).toNat
/-- The step. -/
def ph (es : List (Int × Int)) (ls : List (List Int)) : Nat → Nat := phi (sg es ls) es.length
theorem ph_at {es : List (Int × Int)} {ls : List (List Int)} {h : Nat} (hh : h < 2 * es.length) : ph es ls h = sg es ls (Cs.twin h) := by
  unfold ph phi
  rw [if_pos hh]

section
variable {N : Nat} {es : List (Int × Int)} {ls : List (List Int)}

theorem val_of (h : Ro.Rot N es ls) : Si.Val N es := Si.valid_iff.1 h.val

theorem sg_at (h : Ro.Rot N es ls) {j : Nat} (hj : j < 2 * es.length) : (Ro.nextL es ls)[j]? = some (sg es ls j : Int) ∧ sg es ls j < 2 * es.length ∧ Cs.fr es (sg es ls j) = Cs.fr es j := by
  obtain ⟨t, ht, h1, h2⟩ := h.nextAt hj (by have := fr_in (val_of h) hj; omega)
  have : sg es ls j = t := by
    unfold sg
    rw [List.getD_eq_getElem?_getD, ht]
    rfl
  rw [this]
  exact ⟨ht, h1, h2⟩
theorem sg_per (h : Ro.Rot N es ls) : Per (2 * es.length) (sg es ls) := by
  refine ⟨fun x hx => (sg_at h hx).2.1, fun x y hx hy e => ?_⟩
  have h1 := (sg_at h hx).1
  have h2 := (sg_at h hy).1
  rw [← e] at h2
  exact h.inj (fun j hj => by have := fr_in (val_of h) hj; omega) h1 h2
theorem ph_per (h : Ro.Rot N es ls) : Per (2 * es.length) (ph es ls) := phi_per (sg_per h) _ (Nat.le_refl _)

/-- Round a vertex one comes to all that leave it. -/
theorem sg_round (h : Ro.Rot N es ls) {x y : Nat} (hx : x < 2 * es.length) (hy : y < 2 * es.length) (e : Cs.fr es x = Cs.fr es y) : ∃ k, it (sg es ls) k x = y := by
  obtain ⟨l, i, hl, hi, -⟩ := h.place hx (by have := fr_in (val_of h) hx; omega)
  obtain ⟨l', i', hl', hi', -⟩ := h.place hy (by have := fr_in (val_of h) hy; omega)
  rw [← e, hl] at hl'
  cases hl'
  have hil := Ro.lt_at hi
  have hil' := Ro.lt_at hi'
  have way : ∀ s, ∃ t : Nat, l[(i + s) % l.length]? = some (t : Int) ∧ it (sg es ls) s x = t := by
    intro s
    induction s with
    | zero => exact ⟨x, by rw [Nat.add_zero, Nat.mod_eq_of_lt hil]; exact hi, rfl⟩
    | succ s ih =>
      obtain ⟨t0, ht0, hit⟩ := ih
      obtain ⟨t, t', h1, h2, h3, -, h5⟩ := h.step (s := s) hl hil
      rw [ht0] at h1
      have : t0 = t := by have := Option.some.inj h1; omega
      subst this
      refine ⟨t', h2, ?_⟩
      rw [it_succ, hit]
      have := (sg_at h h3).1
      rw [h5] at this
      have := Option.some.inj this
      omega
  obtain ⟨t, h1, h2⟩ := way (i' + l.length - i)
  refine ⟨i' + l.length - i, ?_⟩
  have e2 : (i + (i' + l.length - i)) % l.length = i' := by
    have : i + (i' + l.length - i) = i' + l.length := by omega
    rw [this, Nat.add_mod_right, Nat.mod_eq_of_lt hil']
  rw [e2, hi'] at h1
  have := Option.some.inj h1
  rw [h2]
  omega

theorem met_of (hv : Si.Val N es) {h : Nat} (hh : h < 2 * es.length) : met es (Cs.fr es h) = true := by
  have hl : h / 2 < es.length := by omega
  have he : es[h / 2]? = some es[h / 2] := by simp [hl]
  have ok := hv.each _ _ he
  unfold Si.ok at ok
  unfold met
  rw [List.any_eq_true]
  refine ⟨es[h / 2], List.getElem_mem hl, ?_⟩
  unfold Cs.fr
  rw [List.getD_eq_getElem?_getD, he]
  simp only [Option.getD_some, Bool.or_eq_true, beq_iff_eq]
  split
  · left; omega
  · right; omega
theorem half_of {v : Nat} (hm : met es v = true) : ∃ h, h < 2 * es.length ∧ Cs.fr es h = v := by
  unfold met at hm
  rw [List.any_eq_true] at hm
  obtain ⟨p, hp, hc⟩ := hm
  obtain ⟨k, hk⟩ := List.mem_iff_getElem?.1 hp
  have hkl := (List.getElem?_eq_some_iff.1 hk).1
  simp only [Bool.or_eq_true, beq_iff_eq] at hc
  rcases hc with hc | hc
  · exact ⟨2 * k, by omega, by rw [(Cs.fr_even hk).1]; omega⟩
  · exact ⟨2 * k + 1, by omega, by rw [(Cs.fr_odd hk).1]; omega⟩

/-- The orbits round vertices: as many as there are vertices with an edge; also those that have q. -/
theorem sg_count (h : Ro.Rot N es ls) {m0 : Nat → Nat} (h0 : Orb (2 * es.length) (sg es ls) m0) (q : Nat → Bool) : nf (2 * es.length) m0 (fun x => q (Cs.fr es x)) = cntTo (fun v => met es v && q v) N := by
  have hv := val_of h
  have hp := sg_per h
  have hk : ∀ x, x < 2 * es.length → Cs.fr es (m0 x) = Cs.fr es x := fun x hx => h0.keep (p := Cs.fr es) hp (fun y hy => (sg_at h hy).2.2) hx
  apply Nat.le_antisymm
  · refine cntTo_inj (f := Cs.fr es) (fun a ha hpa => ?_) (fun a b ha hb hpa hpb e => ?_)
    · simp only [Bool.and_eq_true, decide_eq_true_eq] at hpa ⊢
      exact ⟨fr_in hv ha, met_of hv ha, hpa.2⟩
    · simp only [Bool.and_eq_true, decide_eq_true_eq] at hpa hpb
      have := (h0.iff a b ha hb).2 (sg_round h ha hb e)
      omega
  · have hex : ∀ v, ∃ x, met es v = true → x < 2 * es.length ∧ Cs.fr es x = v := fun v => by
      by_cases hm : met es v = true
      · obtain ⟨x, hx⟩ := half_of hm
        exact ⟨x, fun _ => hx⟩
      · exact ⟨0, fun h => absurd h hm⟩
    obtain ⟨g, hg⟩ := Classical.axiomOfChoice hex
    refine cntTo_inj (f := fun v => m0 (g v)) (fun a ha hpa => ?_) (fun a b ha hb hpa hpb e => ?_)
    · simp only [Bool.and_eq_true, decide_eq_true_eq] at hpa ⊢
      obtain ⟨g1, g2⟩ := hg a hpa.1
      refine ⟨h0.norm.lt g1, h0.norm.idem _ g1, ?_⟩
      rw [hk _ g1, g2]
      exact hpa.2
    · simp only [Bool.and_eq_true] at hpa hpb
      obtain ⟨g1, g2⟩ := hg a hpa.1
      obtain ⟨k1, k2⟩ := hg b hpb.1
      have e1 := hk _ g1
      have e2 := hk _ k1
      have e : m0 (g a) = m0 (g b) := e
      rw [e] at e1
      omega

/-- How many vertices have no edge. -/
def lonely (N : Nat) (es : List (Int × Int)) : Nat := cntTo (fun v => !met es v) N
/-- The component's least vertex. -/
def cp (N : Nat) (es : List (Int × Int)) : Nat → Nat := joins N es (fun x => x)
theorem cp_gen : Gen N es (cp N es) := gen_joins N es
theorem G_all : G N es es.length = cp N es := by
  unfold G cp
  rw [List.take_length]

/-- Euler's formula. -/
theorem euler (h : Ro.Rot N es ls) {m : Nat → Nat} (hm : Orb (2 * es.length) (ph es ls) m) : ∃ g, cnt (2 * es.length) m + lonely N es + N + 2 * g = 2 * cnt N (cp N es) + es.length ∧ g + N ≤ es.length + cnt N (cp N es) := by
  obtain ⟨m0, h0⟩ := orb_ex (sg_per h)
  have hc := sg_count h h0 (fun _ => true)
  rw [nf_true] at hc
  have e1 : cntTo (fun v => met es v && true) N = cntTo (met es) N := cntTo_congr N fun i _ => by simp
  have e2 := cntTo_not (met es) N
  have := chain (val_of h) (sg_per h) (fun x hx => (sg_at h hx).2.2) h0 (i := lonely N es) (by unfold lonely; omega) es.length (Nat.le_refl _) m hm
  rw [G_all] at this
  exact this

/-- A vertex without an edge is a component alone. -/
theorem alone {v : Nat} (hm : met es v = false) {x : Nat} (hx : x < N) : cp N es x = v ↔ x = v := by
  have := (cp_gen (N := N) (es := es)).least (fun y => if y = v then 1 else 0) (fun j hj h1 h2 => by
    have hn : ¬ (j.1 = (v : Int) ∨ j.2 = (v : Int)) := fun hc => by
      have : met es v = true := by
        unfold met
        rw [List.any_eq_true]
        exact ⟨j, hj, by simpa using hc⟩
      rw [hm] at this
      cases this
    unfold isIn at h1 h2
    show (if j.1.toNat = v then 1 else 0) = if j.2.toNat = v then 1 else 0
    rw [if_neg (by omega), if_neg (by omega)]) x hx
  have this : (if cp N es x = v then 1 else 0) = if x = v then 1 else 0 := this
  constructor
  · intro e
    rw [if_pos e] at this
    split at this
    · assumption
    · cases this
  · intro e
    rw [if_pos e] at this
    split at this
    · assumption
    · cases this

theorem cp_twin (hv : Si.Val N es) {x : Nat} (hx : x < 2 * es.length) : cp N es (Cs.fr es (Cs.twin x)) = cp N es (Cs.fr es x) := by
  have := G_twin hv (Nat.le_refl _) hx
  rwa [G_all] at this

/-- How many vertices, edges and faces the component of r has. -/
def nV (N : Nat) (es : List (Int × Int)) (r : Nat) : Nat := cntTo (fun v => decide (cp N es v = r)) N
def nE (N : Nat) (es : List (Int × Int)) (r : Nat) : Nat := cntTo (fun e => decide (cp N es (Cs.fr es (2 * e)) = r)) es.length
def nF (N : Nat) (es : List (Int × Int)) (m : Nat → Nat) (r : Nat) : Nat := nf (2 * es.length) m (fun x => decide (cp N es (Cs.fr es x) = r))

/-- A component with an edge: its numbers make an even sum. -/
theorem comp_even (h : Ro.Rot N es ls) {m : Nat → Nat} (hm : Orb (2 * es.length) (ph es ls) m) {r : Nat} (he : nE N es r ≠ 0) : (nV N es r + nE N es r + nF N es m r) % 2 = 0 := by
  have hv := val_of h
  obtain ⟨m0, h0⟩ := orb_ex (sg_per h)
  have hp := parity (sg_per h) (p := fun x => decide (cp N es (Cs.fr es x) = r)) (fun x hx => by rw [(sg_at h hx).2.2]) (fun x hx => by rw [cp_twin hv hx]) h0 es.length (Nat.le_refl _) m hm
  have hc := sg_count h h0 (fun v => decide (cp N es v = r))
  have e1 : cntTo (fun v => met es v && decide (cp N es v = r)) N = nV N es r := by
    unfold nV
    refine cntTo_congr N fun v hvn => ?_
    by_cases e : cp N es v = r
    · have : met es v = true := by
        cases hmv : met es v with
        | true => rfl
        | false =>
          exfalso
          have hvr : r = v := by
            rw [← e]
            exact (alone hmv hvn).2 rfl
          apply he
          unfold nE
          have := cntTo_congr (p := fun e => decide (cp N es (Cs.fr es (2 * e)) = r)) (q := fun e => decide (e = es.length)) es.length (fun i hi => by
            have h1 := fr_in hv (h := 2 * i) (by omega)
            have h2 := met_of hv (h := 2 * i) (by omega)
            have : ¬ cp N es (Cs.fr es (2 * i)) = r := fun hc => by
              rw [hvr] at hc
              have := (alone hmv h1).1 hc
              rw [this, hmv] at h2
              cases h2
            have h3 : ¬ i = es.length := by omega
            simp [this, h3])
          rw [this, cntTo_one, if_neg (by omega)]
      simp [this]
    · simp [e]
  unfold nF nE
  rw [hc, e1] at hp
  omega
/-- One without: an isolated vertex. -/
theorem comp_alone (h : Ro.Rot N es ls) {m : Nat → Nat} {r : Nat} (hr : r < N) (hc : cp N es r = r) : (nE N es r = 0 ↔ met es r = false) ∧ (nE N es r = 0 → nV N es r = 1 ∧ nF N es m r = 0) := by
  have hv := val_of h
  have key : met es r = false → nE N es r = 0 ∧ nV N es r = 1 ∧ nF N es m r = 0 := fun hmr => by
    have hno : ∀ x, x < 2 * es.length → ¬ cp N es (Cs.fr es x) = r := fun x hx hc => by
      have h1 := (alone hmr (fr_in hv hx)).1 hc
      have h2 := met_of hv hx
      rw [h1, hmr] at h2
      cases h2
    refine ⟨?_, ?_, ?_⟩
    · unfold nE
      rw [cntTo_congr (q := fun e => decide (e = es.length)) es.length (fun i hi => by
        have := hno (2 * i) (by omega)
        have h3 : ¬ i = es.length := by omega
        simp [this, h3]), cntTo_one, if_neg (by omega)]
    · unfold nV
      rw [cntTo_congr (q := fun e => decide (e = r)) N (fun i hi => by
        have := alone (N := N) hmr hi
        simp [this]), cntTo_one, if_pos hr]
    · unfold nF nf
      rw [cntTo_congr (q := fun e => decide (e = 2 * es.length)) (2 * es.length) (fun i hi => by
        have := hno i hi
        have h3 : ¬ i = 2 * es.length := by omega
        simp [this, h3]), cntTo_one, if_neg (by omega)]
  refine ⟨⟨fun h0 => ?_, fun hmr => (key hmr).1⟩, fun h0 => ?_⟩
  all_goals
    cases hmr : met es r with
    | false => first | rfl | exact (key hmr).2
    | true =>
      exfalso
      obtain ⟨x, hx, hxr⟩ := half_of hmr
      have hpos : 0 < nE N es r := by
        unfold nE
        refine cntTo_pos (x := x / 2) _ (by omega) ?_
        have h1 : cp N es (Cs.fr es x) = r := by rw [hxr]; exact hc
        rcases Nat.mod_two_eq_zero_or_one x with h2 | h2
        · have e : 2 * (x / 2) = x := by omega
          rw [e]
          simpa using h1
        · have e : 2 * (x / 2) = Cs.twin x := by unfold Cs.twin; rw [if_neg (by omega)]; omega
          rw [e, cp_twin hv hx]
          simpa using h1
      omega
end
end Fa
end Go.Proofs.Ytfkmldopfhdbkaa
