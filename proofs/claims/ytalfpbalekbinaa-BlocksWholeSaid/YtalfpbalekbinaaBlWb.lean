/-
  Blocks, pure: a block as a graph of its own is valid, and one block.
-/
import Derived.Test.YtalfpbalekbinaaBlWa
import Derived.Test.YtalfpbalekbinaaBlTr
namespace Go.Proofs.Ytalfpbalekbinaa
namespace Bl
open Df Lo

section
variable {n : Nat} {es : List (Int × Int)} {s : St} {f : Nat → Nat} {kk : Nat}

theorem vsTo_rising (k : Int) (j : Nat) : (vsTo es f k j).Pairwise (fun a b => a < b) := by
  unfold vsTo
  rw [List.pairwise_map]
  exact (range_rising _ _).imp fun h => by omega
theorem place_up {l : List Int} (hl : l.Pairwise (fun a b => a < b)) {x y : Int} (hx : x ∈ l) (hy : y ∈ l) (h : x < y) : place l x < place l y := by
  obtain ⟨i, h1, h2⟩ := place_mem hx
  obtain ⟨j, h3, h4⟩ := place_mem hy
  obtain ⟨hi, e1⟩ := List.getElem?_eq_some_iff.1 h1
  obtain ⟨hj, e2⟩ := List.getElem?_eq_some_iff.1 h3
  rcases Nat.lt_trichotomy i j with hlt | rfl | hlt
  · omega
  · omega
  · have := List.pairwise_iff_getElem.1 hl j i hj hi hlt
    omega
theorem place_range {l : List Int} {x : Int} (hx : x ∈ l) : 0 ≤ place l x ∧ place l x < (l.length : Int) := by
  obtain ⟨i, h1, h2⟩ := place_mem hx
  have := (List.getElem?_eq_some_iff.1 h1).1
  omega
theorem place_inj {l : List Int} {x y : Int} (hx : x ∈ l) (hy : y ∈ l) (h : place l x = place l y) : x = y := by
  obtain ⟨i, h1, h2⟩ := place_mem hx
  obtain ⟨j, h3, h4⟩ := place_mem hy
  obtain rfl : i = j := by omega
  rw [h1] at h3
  exact Option.some.inj h3

/-- An edge of a block's graph. -/
theorem bk_at {vs : List Int} {j : Nat} {q : Int × Int} (h : (bkTo es f vs kk es.length)[j]? = some q) : ∃ e p, es[e]? = some p ∧ f e = kk ∧ q = nmE vs p ∧ j = Co.cntTo (fun e => decide (f e = kk)) e := by
  unfold bkTo at h
  rw [List.getElem?_map] at h
  cases he : ((List.range es.length).filter fun e => decide (f e = kk))[j]? with
  | none => rw [he] at h; cases h
  | some e =>
    rw [he] at h
    obtain ⟨h1, h2, h3⟩ := filter_at _ _ _ _ he
    obtain ⟨p, hp⟩ := edge_of (es := es) h2
    refine ⟨e, p, hp, by simpa using h3, ?_, h1⟩
    have := Option.some.inj h
    dsimp only at this
    rw [List.getD_eq_getElem?_getD, hp] at this
    exact this.symm
/-- Where an edge of the block stands. -/
theorem bk_of {vs : List Int} {e : Nat} {p : Int × Int} (hp : es[e]? = some p) (hf : f e = kk) : (bkTo es f vs kk es.length)[Co.cntTo (fun e => decide (f e = kk)) e]? = some (nmE vs p) := by
  unfold bkTo
  rw [List.getElem?_map, filter_get (fun e => decide (f e = kk)) (List.getElem?_eq_some_iff.1 hp).1 (by simpa using hf)]
  simp [List.getD_eq_getElem?_getD, hp]
theorem cntTo_strict {q : Nat → Bool} {a b : Nat} (h : Co.cntTo q a < Co.cntTo q b) : a < b := by
  rcases Nat.lt_or_ge a b with h1 | h1
  · exact h1
  · exfalso
    have : Co.cntTo q b ≤ Co.cntTo q a := by
      clear h
      induction a with
      | zero =>
        have : b = 0 := by omega
        rw [this]
        exact Nat.le_refl _
      | succ a ih =>
        by_cases e : b = a + 1
        · rw [e]
          exact Nat.le_refl _
        · have := ih (by omega)
          rw [Co.cntTo]
          omega
    omega

/-- A block is a valid graph. -/
theorem bk_val (hv : Si.Val n es) : Si.Val ((vsTo es f (kk : Int) n).length : Nat) (bkTo es f (vsTo es f (kk : Int) n) kk es.length) := by
  have hhi := hv.hi
  have hfew := hv.few
  have hl := vsTo_length (es := es) (f := f) (kk : Int) n
  refine ⟨by omega, by omega, Nat.le_trans (bkTo_length _ _ _) hfew, fun j q hq => ?_, fun j q q' hq hq' => ?_⟩
  · obtain ⟨e, p, hp, hf, rfl, _⟩ := bk_at hq
    have hok := hv.each e p hp
    unfold Si.ok at hok ⊢
    obtain ⟨h1, h2⟩ := ends_in hv hp hf
    have := place_up (vsTo_rising _ _) h1 h2 (by omega)
    have := place_range h1
    have := place_range h2
    unfold nmE
    dsimp only
    omega
  · obtain ⟨e, p, hp, hf, rfl, h1⟩ := bk_at hq
    obtain ⟨e', p', hp', hf', rfl, h2⟩ := bk_at hq'
    have hlt := hv.mono e' e p p' (cntTo_strict (q := fun e => decide (f e = kk)) (by omega)) hp hp'
    obtain ⟨a1, a2⟩ := ends_in hv hp hf
    obtain ⟨b1, b2⟩ := ends_in hv hp' hf'
    unfold Si.lt at hlt ⊢
    unfold nmE
    dsimp only
    rcases hlt with hlt | ⟨e1, hlt⟩
    · exact .inl (place_up (vsTo_rising _ _) a1 b1 hlt)
    · exact .inr ⟨by rw [e1], place_up (vsTo_rising _ _) a2 b2 hlt⟩
end

section
variable {n : Nat} {es : List (Int × Int)} {s : St} {kk : Nat}

/-- All edges of a block are joined by pairs of the block's graph. -/
theorem bk_joined (hv : Si.Val n es) (h : VF n es s) {c : Nat} (hck : no9 es c = kk) {e : Nat} (he : HD es s e c) :
    Same9 (bkTo es (no9 es) (vsTo es (no9 es) (kk : Int) n) kk es.length) (Co.cntTo (fun e => decide (no9 es e = kk)) e) (Co.cntTo (fun e => decide (no9 es e = kk)) c) := by
  obtain ⟨vs, hvs⟩ : ∃ vs, vsTo es (no9 es) (kk : Int) n = vs := ⟨_, rfl⟩
  have hin : ∀ e p, es[e]? = some p → no9 es e = kk → p.1 ∈ vs ∧ p.2 ∈ vs := fun e p hp hf => by rw [← hvs]; exact ends_in hv hp hf
  have hno : ∀ e, HD es s e c → no9 es e = kk := fun e hd => by
    rw [← hck]
    exact (no9_hdf hv h hd.lt.1 hd.lt.2.1).2 (by rw [hdf_eq hv h hd, head_hdf hv h hd.lt.2.1 hd.lt.2.2])
  rw [hvs]
  intro g hg
  induction he with
  | self => rfl
  | @up k p c hk hn hp tp gp hd ih =>
    rw [← ih hck hno]
    have hkc : HD es s k c := .up hk hn hp tp gp hd
    obtain ⟨qk, hqk⟩ := edge_of hk
    obtain ⟨qp, hqp⟩ := edge_of hp
    have nk := hno k hkc
    have np := hno p hd
    obtain ⟨k1, k2, _, _⟩ := ends_at hv hqk
    obtain ⟨p1, p2, _, _⟩ := ends_at hv hqp
    obtain ⟨ik1, ik2⟩ := hin k qk hqk nk
    obtain ⟨ip1, ip2⟩ := hin p qp hqp np
    have hnek := ends_ne hv h hk
    have hnep := ends_ne hv h hp
    -- a vertex by its place
    obtain ⟨P, hP⟩ : ∃ P : Nat → Nat, P = fun x : Nat => (place vs (x : Int)).toNat := ⟨_, rfl⟩
    have hPe : ∀ x : Nat, (x : Int) ∈ vs → (P x : Int) = place vs (x : Int) := fun x hx => by
      rw [hP]
      have := place_range hx
      dsimp only
      omega
    have hPi : ∀ x y : Nat, (x : Int) ∈ vs → (y : Int) ∈ vs → P x = P y → x = y := fun x y hx hy e => by
      have h1 := hPe x hx
      have h2 := hPe y hy
      have := place_inj hx hy (by omega)
      omega
    have hends : ∀ e q, es[e]? = some q → HD es s e c → (eU es e : Int) ∈ vs ∧ (eV es e : Int) ∈ vs ∧ nmE vs q = ((P (eU es e) : Int), (P (eV es e) : Int)) := fun e q hq hdd => by
      obtain ⟨a1, a2, _⟩ := ends_at hv hq
      obtain ⟨b1, b2⟩ := hin e q hq (hno e hdd)
      rw [a1] at b1
      rw [a2] at b2
      refine ⟨b1, b2, ?_⟩
      unfold nmE
      rw [hPe _ b1, hPe _ b2, ← a1, ← a2]
    have hfg : ∀ e, HD es s e c → (fr es s e : Int) ∈ vs ∧ (go_ es s e : Int) ∈ vs := fun e hdd => by
      obtain ⟨q, hq⟩ := edge_of hdd.lt.1
      obtain ⟨b1, b2, _⟩ := hends e q hq hdd
      rcases ends_two h hdd.lt.1 with ⟨a, b⟩ | ⟨a, b⟩ <;> rw [a, b]
      · exact ⟨b1, b2⟩
      · exact ⟨b2, b1⟩
    have hconn : ConnE (bkTo es (no9 es) vs kk es.length) (P (fr es s k) : Int) (P (go_ es s k)) (P (fr es s p)) := fun S' hS' => by
      refine up_pairC hv h hk hn hkc hp tp gp (S := fun x => S' (P x)) fun e hdd h1 h2 => ?_
      obtain ⟨q, hq⟩ := edge_of hdd.lt.1
      obtain ⟨b1, b2, hnm⟩ := hends e q hq hdd
      have hmem : ((P (eU es e) : Int), (P (eV es e) : Int)) ∈ bkTo es (no9 es) vs kk es.length := by
        rw [← hnm]
        exact List.mem_of_getElem? (bk_of hq (hno e hdd))
      have hfk := (hfg k hkc).1
      rcases ends_two h hdd.lt.1 with ⟨a, b⟩ | ⟨a, b⟩
      · rw [a] at h1 ⊢
        rw [b] at h2 ⊢
        exact hS' _ _ hmem (fun e => h1 (hPi _ _ b1 hfk (by omega))) (fun e => h2 (hPi _ _ b2 hfk (by omega)))
      · rw [a] at h1 ⊢
        rw [b] at h2 ⊢
        exact (hS' _ _ hmem (fun e => h2 (hPi _ _ b1 hfk (by omega))) (fun e => h1 (hPi _ _ b2 hfk (by omega)))).symm
    -- the two edges meet there
    have hlt : ∀ e, HD es s e c → Co.cntTo (fun e => decide (no9 es e = kk)) e < (bkTo es (no9 es) vs kk es.length).length := fun e hdd => by
      obtain ⟨q, hq⟩ := edge_of hdd.lt.1
      exact (List.getElem?_eq_some_iff.1 (bk_of (vs := vs) hq (hno e hdd))).1
    obtain ⟨c1, c2, hnk⟩ := hends k qk hqk hkc
    obtain ⟨d1, d2, hnp⟩ := hends p qp hqp hd
    refine hg _ _ (P (fr es s k)) (hlt k hkc) (hlt p hd) ⟨_, _, bk_of hqk nk, bk_of hqp np, ?_, ?_, ?_⟩
    · rw [hnk]
      dsimp only
      rcases ends_two h hk with ⟨a, b⟩ | ⟨a, b⟩ <;> rw [a] <;> simp
    · rw [hnp]
      dsimp only
      rw [← gp]
      rcases ends_two h hp with ⟨a, b⟩ | ⟨a, b⟩ <;> rw [b] <;> simp
    · have o1 : (othE (nmE vs qk) (P (fr es s k))).toNat = P (go_ es s k) := by
        rw [hnk]
        unfold othE
        rcases ends_two h hk with ⟨a, b⟩ | ⟨a, b⟩
        · rw [a, b, if_pos rfl]
          simp
        · rw [a, b] at hnek
          rw [a, b, if_neg (fun e => hnek (hPi _ _ c1 c2 (by dsimp only at e; omega)))]
          simp
      have o2 : (othE (nmE vs qp) (P (fr es s k))).toNat = P (fr es s p) := by
        rw [hnp, ← gp]
        unfold othE
        rcases ends_two h hp with ⟨a, b⟩ | ⟨a, b⟩
        · rw [a, b] at hnep
          rw [a, b, if_neg (fun e => hnep (hPi _ _ d2 d1 (by dsimp only at e; omega)))]
          simp
        · rw [a, b, if_pos rfl]
          simp
      rw [o1, o2]
      exact hconn

/-- A block's graph is one block. -/
theorem bk_one (hv : Si.Val n es) (h : VF n es s) (hk : kk < ct9 es) : 0 < (bkTo es (no9 es) (vsTo es (no9 es) (kk : Int) n) kk es.length).length ∧ ∀ j, j < (bkTo es (no9 es) (vsTo es (no9 es) (kk : Int) n) kk es.length).length → m9 (bkTo es (no9 es) (vsTo es (no9 es) (kk : Int) n) kk es.length) j = 0 := by
  -- an edge of the block
  obtain ⟨e0, he0, hn0⟩ : ∃ e0, e0 < es.length ∧ no9 es e0 = kk := by
    have hlen : ((List.range es.length).filter fun i => decide (m9 es i = i)).length = ct9 es := filter_len _ _
    obtain ⟨t, ht⟩ : ∃ t, ((List.range es.length).filter fun i => decide (m9 es i = i))[kk]? = some t := ⟨_, List.getElem?_eq_getElem (by omega)⟩
    obtain ⟨h1, h2, h3⟩ := filter_at _ _ _ _ ht
    refine ⟨t, h2, ?_⟩
    have h3 : m9 es t = t := by simpa using h3
    unfold no9 numB
    rw [h3, h1]
    rfl
  have hd0 := hdf_of hv h he0
  have hc := hd0.lt.2.1
  have hck : no9 es (hdf es s e0) = kk := by
    rw [← hn0]
    exact (no9_hdf hv h hc he0).2 (by rw [head_hdf hv h hc hd0.lt.2.2])
  have hall : ∀ j, j < (bkTo es (no9 es) (vsTo es (no9 es) (kk : Int) n) kk es.length).length → Same9 (bkTo es (no9 es) (vsTo es (no9 es) (kk : Int) n) kk es.length) j (Co.cntTo (fun e => decide (no9 es e = kk)) (hdf es s e0)) := fun j hj => by
    obtain ⟨e, p, hp, hf, _, h1⟩ := bk_at (List.getElem?_eq_getElem hj)
    have hel := (List.getElem?_eq_some_iff.1 hp).1
    rw [h1]
    have hde := hdf_of hv h hel
    have hhd : hdf es s e = hdf es s e0 := (no9_hdf hv h hel he0).1 (by rw [hf, hn0])
    rw [hhd] at hde
    exact bk_joined hv h hck hde
  obtain ⟨p0, hp0⟩ := edge_of he0
  have hpos : 0 < (bkTo es (no9 es) (vsTo es (no9 es) (kk : Int) n) kk es.length).length := Nat.lt_of_le_of_lt (Nat.zero_le _) (List.getElem?_eq_some_iff.1 (bk_of (vs := vsTo es (no9 es) (kk : Int) n) hp0 hn0)).1
  refine ⟨hpos, fun j hj => ?_⟩
  have := m9_le hpos ((hall 0 hpos).trans (hall j hj).symm)
  omega
end

/-- A graph of one block. -/
theorem one_block {H : List (Int × Int)} (h0 : 0 < H.length) (h : ∀ j, j < H.length → m9 H j = 0) (N : Nat) : ct9 H = 1 ∧ cutsTo H (no9 H) (ct9 H) N = [] ∧ ((brTo (no9 H) H.length H.length).length ≠ 0 ↔ H.length = 1) := by
  have h1 : ct9 H = 1 := by
    unfold ct9
    rw [cntB_eq, Co.cntTo_congr H.length (q := fun i => decide (i = 0)) (fun i hi => by rw [h i hi]; simp [eq_comm]), Co.cntTo_one, if_pos h0]
  have h2 : ∀ j, j < H.length → no9 H j = 0 := fun j hj => by
    unfold no9 numB
    rw [h j hj]
    rfl
  refine ⟨h1, ?_, ?_⟩
  · unfold cutsTo
    rw [h1]
    have : (List.range N).filter (fun v : Nat => decide (1 < inB H (no9 H) (v : Int) 1)) = [] := List.filter_eq_nil_iff.2 fun v _ => by
      have := inB_le H (no9 H) (v : Int) 1
      simp
      omega
    rw [this]
    rfl
  · classical
    unfold brTo
    rw [List.length_map]
    constructor
    · intro hne
      obtain ⟨i, hi⟩ := List.exists_mem_of_length_pos (Nat.pos_of_ne_zero hne)
      rw [List.mem_filter, List.mem_range] at hi
      unfold lone at hi
      have hL := of_decide_eq_true hi.2
      by_cases e : H.length = 1
      · exact e
      · exfalso
        have hx : ∃ x, x < H.length ∧ x ≠ i := by
          by_cases e0 : i = 0
          · exact ⟨1, by omega, by omega⟩
          · exact ⟨0, by omega, fun e => e0 e.symm⟩
        obtain ⟨x, hx1, hx2⟩ := hx
        exact hL x hx1 hx2 (by rw [h2 x hx1, h2 i hi.1])
    · intro e hz
      have hm : (0 : Nat) ∈ (List.range H.length).filter fun i => lone (no9 H) i H.length := by
        rw [List.mem_filter, List.mem_range]
        exact ⟨h0, by unfold lone; exact decide_eq_true fun k hk hne => by omega⟩
      rw [List.length_eq_zero_iff.1 hz] at hm
      cases hm
end Bl
end Go.Proofs.Ytalfpbalekbinaa
