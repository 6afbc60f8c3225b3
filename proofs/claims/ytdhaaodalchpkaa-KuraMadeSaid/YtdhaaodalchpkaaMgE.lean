import Derived.Test.YtdhaaodalchpkaaKvL
/-
  Layer 15, the program: what Recognise wants to know of chains and branch vertices, pure.
-/
namespace Go.Proofs.Ytdhaaodalchpkaa
open Go.RowKit Go.Sort Go.Maps

namespace Ku
theorem vs_mem {S : Gs} {l : List Nat} {v : Nat} (h : v ∈ vs S l) : ∃ x ∈ l, v = S.fr x ∨ v = S.to x := by
  cases l with
  | nil => simp [vs] at h
  | cons a l =>
    simp only [vs, List.mem_cons, List.mem_map] at h
    rcases h with rfl | ⟨x, hx, rfl⟩
    · exact ⟨a, List.mem_cons_self, .inl rfl⟩
    · exact ⟨x, List.mem_cons.2 hx, .inr rfl⟩
theorem Cn.nd0 {S : Gs} {l : List Nat} (c : Cn S l) : l.Nodup := by
  rcases c.kind with o | o
  · exact o.nodup
  · exact o.1.nd
theorem rows_small {n : Int} {es : List (Int × Int)} (hv : Si.Val n es) : Small (rows es hv es.length) := by
  have hf := hv.few
  have hh := hv.hi
  refine ⟨by rw [rows_length]; have := chs_length (es := es) (hv := hv) es.length; omega, fun l hl => ?_⟩
  obtain ⟨t, ht⟩ := List.getElem?_of_mem hl
  obtain ⟨c, hc, rfl⟩ := rows_at ht
  have hcn := chs_cn (Nat.le_refl _) (List.mem_of_getElem? hc)
  have h1 := few_below hcn.nd0 hcn.lt
  have h3 : (gs es hv).M = 2 * es.length := rfl
  rw [h3] at h1
  have hne := hcn.ne
  have h2 := List.length_pos_iff.2 hne
  rw [ZL_length, vs_length hne]
  refine ⟨by omega, by omega, fun x hx => ?_⟩
  obtain ⟨v, hvm, rfl⟩ := List.mem_map.1 hx
  obtain ⟨y, hy, e⟩ := vs_mem hvm
  have hyl : y < 2 * es.length := hcn.lt y hy
  have key : ∀ z, z < 2 * es.length → ((Cs.fr es z : Nat) : Int) < n := fun z hz => by
    obtain ⟨m, rfl⟩ : ∃ m : Nat, n = (m : Int) := ⟨n.toNat, by have := hv.lo; omega⟩
    have := (Cs.half_lt hv hz).1
    omega
  rcases e with rfl | rfl
  · have := key y hyl
    show (0 : Int) ≤ ((Cs.fr es y : Nat) : Int) ∧ ((Cs.fr es y : Nat) : Int) < 1048576
    omega
  · have := key (Cs.twin y) ((gs es hv).tl y hyl)
    show (0 : Int) ≤ ((Cs.fr es (Cs.twin y) : Nat) : Int) ∧ ((Cs.fr es (Cs.twin y) : Nat) : Int) < 1048576
    omega

theorem mem_brs {es : List (Int × Int)} {v : Nat} : ∀ {k : Nat}, v ∈ brs es k ↔ v < k ∧ dg es v ≠ 0 ∧ dg es v ≠ 2
  | 0 => by simp [brs]
  | k + 1 => by
    by_cases h : dg es k ≠ 0 ∧ dg es k ≠ 2
    · rw [brs_yes h, List.mem_append, mem_brs (k := k), List.mem_singleton]
      constructor
      · rintro (⟨h1, h2⟩ | rfl)
        · exact ⟨by omega, h2⟩
        · exact ⟨by omega, h⟩
      · rintro ⟨h1, h2⟩
        by_cases e : v = k
        · exact .inr e
        · exact .inl ⟨by omega, h2⟩
    · rw [brs_no h, mem_brs (k := k)]
      constructor
      · rintro ⟨h1, h2⟩
        exact ⟨by omega, h2⟩
      · rintro ⟨h1, h2⟩
        refine ⟨?_, h2⟩
        rcases Nat.lt_succ_iff_lt_or_eq.1 h1 with h3 | rfl
        · exact h3
        · exact absurd h2 h
theorem brs_up (es : List (Int × Int)) : ∀ k, (brs es k).Pairwise (· < ·)
  | 0 => List.Pairwise.nil
  | k + 1 => by
    by_cases h : dg es k ≠ 0 ∧ dg es k ≠ 2
    · rw [brs_yes h, List.pairwise_append]
      exact ⟨brs_up es k, by simp, fun a ha b hb => by rw [List.mem_singleton.1 hb]; exact (mem_brs.1 ha).1⟩
    · rw [brs_no h]
      exact brs_up es k
theorem ZL_up {l : List Nat} (h : l.Pairwise (· < ·)) : (ZL l).Pairwise (· < ·) := by
  unfold ZL
  rw [List.pairwise_map]
  exact h.imp fun h => by omega
theorem gI_up {L : List Int} (h : L.Pairwise (· < ·)) {i j : Nat} (hij : i < j) (hj : j < L.length) : gI L i < gI L j := by
  have := List.pairwise_iff_getElem.1 h i j (by omega) hj hij
  rw [gI_at (List.getElem?_eq_getElem (by omega : i < L.length)), gI_at (List.getElem?_eq_getElem hj)]
  exact this

theorem key_lt {a b : Int} (h : a < b) : key (a, b) = (a, b) := by
  unfold key
  rw [if_neg (by dsimp only; omega)]
theorem key_ne {a b c d : Int} (h1 : ¬ (a = c ∧ b = d)) (h2 : ¬ (a = d ∧ b = c)) : key (a, b) ≠ key (c, d) := by
  unfold key
  dsimp only
  intro h
  split at h <;> split at h <;> (simp only [Prod.mk.injEq] at h; omega)
theorem key_in {p : Int × Int} (h1 : 0 ≤ p.1 ∧ p.1 < 1048576) (h2 : 0 ≤ p.2 ∧ p.2 < 1048576) : In64 (key p) := by
  unfold key In64
  split <;> (first | omega | (dsimp only; omega))
/-- The keys of different places are different. -/
def KeysApart (ps : List (Int × Int)) : Prop := ∀ (t t' : Nat) (p p' : Int × Int), t ≠ t' → ps[t]? = some p → ps[t']? = some p' → key p ≠ key p'
theorem keys_apart {ps : List (Int × Int)} (h : ps.Pairwise fun p q => key p ≠ key q) : KeysApart ps := fun t t' p p' hne hp hp' => by
  obtain ⟨h1, e1⟩ := List.getElem?_eq_some_iff.1 hp
  obtain ⟨h2, e2⟩ := List.getElem?_eq_some_iff.1 hp'
  have H := List.pairwise_iff_getElem.1 h
  rcases Nat.lt_or_gt_of_ne hne with hlt | hlt
  · have := H t t' h1 h2 hlt
    rw [e1, e2] at this
    exact this
  · have := H t' t h2 h1 hlt
    rw [e1, e2] at this
    exact fun e => this e.symm
theorem five_form {L : List Int} (h : L.length = 5) : ∃ a b c d e, L = [a, b, c, d, e] := by
  match L, h with
  | [a, b, c, d, e], _ => exact ⟨a, b, c, d, e, rfl⟩
theorem three_form {L : List Int} (h : L.length = 3) : ∃ a b c, L = [a, b, c] := by
  match L, h with
  | [a, b, c], _ => exact ⟨a, b, c, rfl⟩
theorem pout5 (a b c d e : Int) : pout [a, b, c, d, e] 5 = [(a, b), (a, c), (a, d), (a, e), (b, c), (b, d), (b, e), (c, d), (c, e), (d, e)] := rfl
theorem cout3 (a b c x y z : Int) : cout [a, b, c] [x, y, z] 3 = [(a, x), (a, y), (a, z), (b, x), (b, y), (b, z), (c, x), (c, y), (c, z)] := rfl
theorem pout_ok {L : List Int} (h5 : L.length = 5) (hu : L.Pairwise (· < ·)) (hs : ∀ x ∈ L, 0 ≤ x ∧ x < 1048576) : (∀ p ∈ pout L 5, In64 (key p)) ∧ KeysApart (pout L 5) := by
  obtain ⟨a, b, c, d, e, rfl⟩ := five_form h5
  rw [pout5]
  simp only [List.mem_cons, List.not_mem_nil, or_false, forall_eq_or_imp, forall_eq] at hs
  simp only [List.pairwise_cons, List.mem_cons, List.not_mem_nil, or_false, forall_eq_or_imp, forall_eq] at hu
  obtain ⟨s1, s2, s3, s4, s5⟩ := hs
  obtain ⟨⟨u1, u2, u3, u4⟩, ⟨u5, u6, u7⟩, ⟨u8, u9⟩, u10, -⟩ := hu
  refine ⟨?_, keys_apart ?_⟩
  · simp only [List.mem_cons, List.not_mem_nil, or_false, forall_eq_or_imp, forall_eq]
    refine ⟨?_, ?_, ?_, ?_, ?_, ?_, ?_, ?_, ?_, ?_⟩ <;> exact key_in (by assumption) (by assumption)
  · simp only [List.pairwise_cons, List.mem_cons, List.not_mem_nil, or_false, forall_eq_or_imp, forall_eq, false_implies, implies_true, List.Pairwise.nil, and_true]
    refine ⟨⟨?_, ?_, ?_, ?_, ?_, ?_, ?_, ?_, ?_⟩, ⟨?_, ?_, ?_, ?_, ?_, ?_, ?_, ?_⟩, ⟨?_, ?_, ?_, ?_, ?_, ?_, ?_⟩, ⟨?_, ?_, ?_, ?_, ?_, ?_⟩, ⟨?_, ?_, ?_, ?_, ?_⟩, ⟨?_, ?_, ?_, ?_⟩, ⟨?_, ?_, ?_⟩, ⟨?_, ?_⟩, ?_⟩ <;> exact key_ne (by omega) (by omega)

theorem mem_nearK {R : List (List Int)} {L : List Int} {x : Int} : ∀ {k : Nat}, x ∈ nearK R L k → ∃ i, i < k ∧ x = gI L i ∧ jnd R L i = false
  | 0, h => by simp [nearK] at h
  | k + 1, h => by
    cases hj : jnd R L k with
    | true =>
      rw [(nfK_yes hj).1] at h
      obtain ⟨i, hi, e⟩ := mem_nearK h
      exact ⟨i, by omega, e⟩
    | false =>
      rw [(nfK_no hj).1, List.mem_append, List.mem_singleton] at h
      rcases h with h | h
      · obtain ⟨i, hi, e⟩ := mem_nearK h
        exact ⟨i, by omega, e⟩
      · exact ⟨k, by omega, h, hj⟩
theorem mem_farK {R : List (List Int)} {L : List Int} {x : Int} : ∀ {k : Nat}, x ∈ farK R L k → ∃ i, i < k ∧ x = gI L i ∧ jnd R L i = true
  | 0, h => by simp [farK] at h
  | k + 1, h => by
    cases hj : jnd R L k with
    | false =>
      rw [(nfK_no hj).2] at h
      obtain ⟨i, hi, e⟩ := mem_farK h
      exact ⟨i, by omega, e⟩
    | true =>
      rw [(nfK_yes hj).2, List.mem_append, List.mem_singleton] at h
      rcases h with h | h
      · obtain ⟨i, hi, e⟩ := mem_farK h
        exact ⟨i, by omega, e⟩
      · exact ⟨k, by omega, h, hj⟩
theorem nearK_up {R : List (List Int)} {L : List Int} (hu : L.Pairwise (· < ·)) : ∀ {k : Nat}, k ≤ L.length → (nearK R L k).Pairwise (· < ·)
  | 0, _ => List.Pairwise.nil
  | k + 1, hk => by
    cases hj : jnd R L k with
    | true =>
      rw [(nfK_yes hj).1]
      exact nearK_up hu (by omega)
    | false =>
      rw [(nfK_no hj).1, List.pairwise_append]
      refine ⟨nearK_up hu (by omega), by simp, fun a ha b hb => ?_⟩
      obtain ⟨i, hi, rfl, -⟩ := mem_nearK ha
      rw [List.mem_singleton.1 hb]
      exact gI_up hu hi (by omega)
theorem farK_up {R : List (List Int)} {L : List Int} (hu : L.Pairwise (· < ·)) : ∀ {k : Nat}, k ≤ L.length → (farK R L k).Pairwise (· < ·)
  | 0, _ => List.Pairwise.nil
  | k + 1, hk => by
    cases hj : jnd R L k with
    | false =>
      rw [(nfK_no hj).2]
      exact farK_up hu (by omega)
    | true =>
      rw [(nfK_yes hj).2, List.pairwise_append]
      refine ⟨farK_up hu (by omega), by simp, fun a ha b hb => ?_⟩
      obtain ⟨i, hi, rfl, -⟩ := mem_farK ha
      rw [List.mem_singleton.1 hb]
      exact gI_up hu hi (by omega)
theorem nf_apart {R : List (List Int)} {L : List Int} (hu : L.Pairwise (· < ·)) {x y : Int} (hx : x ∈ nearK R L L.length) (hy : y ∈ farK R L L.length) : x ≠ y := by
  obtain ⟨i, hi, rfl, h1⟩ := mem_nearK hx
  obtain ⟨j, hj, rfl, h2⟩ := mem_farK hy
  intro e
  rcases Nat.lt_trichotomy i j with h | rfl | h
  · have := gI_up hu h hj
    omega
  · rw [h1] at h2
    cases h2
  · have := gI_up hu h hi
    omega
theorem cout_ok {R : List (List Int)} {L : List Int} (h6 : L.length = 6) (hu : L.Pairwise (· < ·)) (hs : ∀ x ∈ L, 0 ≤ x ∧ x < 1048576) (h3 : (nearK R L 6).length = 3) : (∀ p ∈ cout (nearK R L 6) (farK R L 6) 3, In64 (key p)) ∧ KeysApart (cout (nearK R L 6) (farK R L 6) 3) := by
  have hn := nf_length R L 6
  obtain ⟨a, b, c, eN⟩ := three_form h3
  obtain ⟨x, y, z, eF⟩ := three_form (L := farK R L 6) (by omega)
  have uN := nearK_up (R := R) hu (k := 6) (by omega)
  have uF := farK_up (R := R) hu (k := 6) (by omega)
  have ap : ∀ p ∈ nearK R L 6, ∀ q ∈ farK R L 6, p ≠ q := fun p hp q hq => nf_apart (R := R) hu (by rw [h6]; exact hp) (by rw [h6]; exact hq)
  have sN : ∀ p ∈ nearK R L 6, 0 ≤ p ∧ p < 1048576 := fun p hp => by
    obtain ⟨i, hi, rfl, -⟩ := mem_nearK hp
    exact gI_small hs (by omega)
  have sF : ∀ p ∈ farK R L 6, 0 ≤ p ∧ p < 1048576 := fun p hp => by
    obtain ⟨i, hi, rfl, -⟩ := mem_farK hp
    exact gI_small hs (by omega)
  rw [eN] at uN ap sN ⊢
  rw [eF] at uF ap sF ⊢
  rw [cout3]
  simp only [List.mem_cons, List.not_mem_nil, or_false, forall_eq_or_imp, forall_eq] at sN sF ap
  simp only [List.pairwise_cons, List.mem_cons, List.not_mem_nil, or_false, forall_eq_or_imp, forall_eq] at uN uF
  obtain ⟨s1, s2, s3⟩ := sN
  obtain ⟨t1, t2, t3⟩ := sF
  obtain ⟨⟨a1, a2, a3⟩, ⟨a4, a5, a6⟩, a7, a8, a9⟩ := ap
  obtain ⟨⟨u1, u2⟩, u3, -⟩ := uN
  obtain ⟨⟨v1, v2⟩, v3, -⟩ := uF
  refine ⟨?_, keys_apart ?_⟩
  · simp only [List.mem_cons, List.not_mem_nil, or_false, forall_eq_or_imp, forall_eq]
    refine ⟨?_, ?_, ?_, ?_, ?_, ?_, ?_, ?_, ?_⟩ <;> exact key_in (by assumption) (by assumption)
  · simp only [List.pairwise_cons, List.mem_cons, List.not_mem_nil, or_false, forall_eq_or_imp, forall_eq, false_implies, implies_true, List.Pairwise.nil, and_true]
    refine ⟨⟨?_, ?_, ?_, ?_, ?_, ?_, ?_, ?_⟩, ⟨?_, ?_, ?_, ?_, ?_, ?_, ?_⟩, ⟨?_, ?_, ?_, ?_, ?_, ?_⟩, ⟨?_, ?_, ?_, ?_, ?_⟩, ⟨?_, ?_, ?_, ?_⟩, ⟨?_, ?_, ?_⟩, ⟨?_, ?_⟩, ?_⟩ <;> exact key_ne (by omega) (by omega)
end Ku
end Go.Proofs.Ytdhaaodalchpkaa

/-
  Layer 15: what the program's Recognise answers.
-/
namespace Go.Proofs.Ytdhaaodalchpkaa
open Go.RowKit Go.Sort Go.Maps

namespace Ku
open Classical in
noncomputable def kur (R : List (List Int)) (kd : Int) (br : List Int) (ps : List (Int × Int)) : Option (Int × List Int × List (List Int)) := if All R ps then some (kd, br, ps.map (pathOf R)) else none
open Classical in
/-- What Recognise answers. -/
noncomputable def recA (R : List (List Int)) (es : List (Int × Int)) (m : Nat) : Option (Int × List Int × List (List Int)) :=
  if (brs es m).length = 5 ∧ (∀ v ∈ brs es m, dg es v = 4) then kur R 1 (ZL (brs es m)) (pout (ZL (brs es m)) 5)
  else if (brs es m).length = 6 ∧ (∀ v ∈ brs es m, dg es v = 3) ∧ (nearK R (ZL (brs es m)) 6).length = 3 then kur R 2 (nearK R (ZL (brs es m)) 6 ++ farK R (ZL (brs es m)) 6) (cout (nearK R (ZL (brs es m)) 6) (farK R (ZL (brs es m)) 6) 3)
  else none
def AnsK (o : Option (Int × List Int × List (List Int))) (w : World) (e : Ending) (w' : World) : Prop :=
  match o with
  | none => e = .returned (.tuple #[noKura, .bool false, .int .i64 0])
  | some (kd, br, ps) => ∃ bv pv vs, e = .returned (.tuple #[.agg #[.int .i64 kd, bv, pv], .bool true, .int .i64 0]) ∧ OwnZ w' w.heap.size bv br ∧ RowsZ w' w.heap.size pv vs ps ∧ ∀ b, bv.ownBlock = some b → pv.ownBlock ≠ some b ∧ ¬ inV vs b
def PRecP (n : Int) (es : List (Int × Int)) (w : World) (e : Ending) (w' : World) : Prop :=
  ((Si.valid n es = false ∧ e = .returned (.tuple #[noKura, .bool false, .int .i64 1])) ∨ ∃ (m : Nat) (hv : Si.Val n es), n = (m : Int) ∧ AnsK (recA (rows es hv es.length) es m) w e w') ∧ Below w.heap.size w w'

theorem kur_ans {B : Nat} {cs : List Value} {R : List (List Int)} {kd : Int} {bv : Value} {ps : List (Int × Int)} {w5 w6 w X : World} {e5 : Ending} (hk : KurP B cs R kd bv ps w5 e5 w6) {br : List Int} (hbv : OwnZ w6 w.heap.size bv br) (hB : w.heap.size ≤ B) {c1 c2 : Nat}
    (hX : ∀ b, b ≠ c1 → b ≠ c2 → X.heap[b]? = w6.heap[b]?) (hc : ∀ b, (bv.ownBlock = some b ∨ inV cs b ∨ w5.heap.size ≤ b) → b ≠ c1 ∧ b ≠ c2) (hap : ∀ (b : Nat) (k v pv r : Value), bv.ownBlock = some b → e5 = .returned (.tuple #[.agg #[k, v, pv], r]) → pv.ownBlock ≠ some b ∧ ¬ inV cs b) {k v p r : Value} (he : e5 = .returned (.tuple #[.agg #[k, v, p], r])) :
    AnsK (kur R kd br ps) w (.returned (.tuple #[.agg #[k, v, p], r, .int .i64 0])) X := by
  unfold kur
  rcases hk.1 with ⟨h1, h2⟩ | ⟨h1, pv, vs, h2, h3, h4, h5⟩
  · rw [if_neg h1]
    rw [h2] at he
    unfold noKura at he
    cases he
    rfl
  · rw [if_pos h1]
    have hap' := hap
    rw [h2] at he hap'
    cases he
    refine ⟨_, _, vs, rfl, hbv.same fun g hg _ => ?_, (h3.lower hB).kept fun b hb _ => ?_, fun b hb => ?_⟩
    · obtain ⟨a1, a2⟩ := hc g (.inl hg)
      exact hX g a1 a2
    · obtain ⟨a1, a2⟩ := hc b (by
        rcases hb with hb | hb
        · exact .inr (.inr (h4 b hb))
        · exact .inr (.inl (h5 b hb)))
      exact hX b a1 a2
    · obtain ⟨a1, a2⟩ := hap' b _ _ _ _ hb rfl
      exact ⟨a1, fun h => a2 (h5 b h)⟩
theorem set3_far {u : World} {k8 : Nat} (x y z : Value) (b : Nat) (hb : b ≠ k8) : (((u.setCell ⟨k8, 0, none⟩ x).setCell ⟨k8, 1, none⟩ y).setCell ⟨k8, 2, none⟩ z).heap[b]? = u.heap[b]? := by
  rw [heap_setCell_other _ ⟨k8, 2, none⟩ b _ hb, heap_setCell_other _ ⟨k8, 1, none⟩ b _ hb, heap_setCell_other _ ⟨k8, 0, none⟩ b _ hb]
theorem recA_5 {R : List (List Int)} {es : List (Int × Int)} {m : Nat} (h : (brs es m).length = 5) (hd : ∀ v ∈ brs es m, dg es v = 4) : recA R es m = kur R 1 (ZL (brs es m)) (pout (ZL (brs es m)) 5) := if_pos ⟨h, hd⟩
theorem recA_6 {R : List (List Int)} {es : List (Int × Int)} {m : Nat} (h : (brs es m).length = 6) (hd : ∀ v ∈ brs es m, dg es v = 3) (h3 : (nearK R (ZL (brs es m)) 6).length = 3) : recA R es m = kur R 2 (nearK R (ZL (brs es m)) 6 ++ farK R (ZL (brs es m)) 6) (cout (nearK R (ZL (brs es m)) 6) (farK R (ZL (brs es m)) 6) 3) := by
  unfold recA
  rw [if_neg (by omega), if_pos ⟨h, hd, h3⟩]
theorem recA_no {R : List (List Int)} {es : List (Int × Int)} {m : Nat} (h5 : ¬ ((brs es m).length = 5 ∧ ∀ v ∈ brs es m, dg es v = 4)) (h6 : ¬ ((brs es m).length = 6 ∧ (∀ v ∈ brs es m, dg es v = 3) ∧ (nearK R (ZL (brs es m)) 6).length = 3)) : recA R es m = none := by
  unfold recA
  rw [if_neg h5, if_neg h6]
theorem some_bool (P : Prop) : ∃ r : Bool, r = true ↔ P := by
  by_cases h : P
  · exact ⟨true, by simp [h]⟩
  · exact ⟨false, by simp [h]⟩
end Ku
end Go.Proofs.Ytdhaaodalchpkaa

/-
  Layer 15, pure: the graphs of the fixed fact and what is answered of them.
-/
namespace Go.Proofs.Ytdhaaodalchpkaa

namespace Ku
section
variable {es : List (Int × Int)} {n : Int} {hv : Si.Val n es}
theorem gs_tw : (gs es hv).tw = Cs.twin := rfl
theorem gs_nx : (gs es hv).nx = nxt es := rfl
theorem vs_cons (h : Nat) (l : List Nat) : vs (gs es hv) (h :: l) = Cs.fr es h :: (h :: l).map (Cs.to es) := by
  unfold vs
  have : (gs es hv).to = Cs.to es := funext fun x => gs_to x
  rw [this]
  rfl
/-- An edge whose ends both have not two edges is a chain. -/
theorem edge_cn {e : Nat} (he : e < es.length) (h1 : dg es (Cs.fr es (2 * e)) ≠ 2) (h2 : dg es (Cs.to es (2 * e)) ≠ 2) : Cn (gs es hv) [2 * e] := by
  have hlt : 2 * e < 2 * es.length := by omega
  obtain ⟨p, hp⟩ : ∃ p, es[e]? = some p := ⟨_, List.getElem?_eq_getElem he⟩
  have hok := hv.each e p hp
  unfold Si.ok at hok
  have hfr := Cs.fr_even hp
  refine ⟨fun x hx => ?_, .inl ?_, .inl ⟨Tr.one _, by simp, fun a ha => ?_, fun a ha => ?_⟩⟩
  · rw [List.mem_singleton.1 hx]
    exact hlt
  · have e0 : vs (gs es hv) [2 * e] = [Cs.fr es (2 * e), Cs.to es (2 * e)] := by
      show [Cs.fr es (2 * e), (gs es hv).to (2 * e)] = _
      rw [gs_to]
    rw [e0]
    show Cs.fr es (2 * e) < Cs.to es (2 * e)
    omega
  · cases ha
    show nxt es (Cs.twin (2 * e)) = none
    rw [nxt_none (Cs.twin_lt hlt), Cs.to_twin]
    exact h1
  · cases ha
    show nxt es (2 * e) = none
    rw [nxt_none hlt]
    exact h2
theorem by_one {e e' : Nat} (h : By [2 * e] e') : e' = e := by
  obtain ⟨x, hx, rfl⟩ := h
  rw [List.mem_singleton.1 hx]
  omega
/-- Where no vertex has two edges each edge is a chain. -/
theorem rows_plain (hd : ∀ v, dg es v ≠ 2) : ∀ {k : Nat}, k ≤ es.length → rows es hv k = (es.take k).map fun p => [p.1, p.2]
  | 0, _ => by simp [rows, chs]
  | k + 1, hk => by
    obtain ⟨p, hp⟩ : ∃ p, es[k]? = some p := ⟨_, List.getElem?_eq_getElem (by omega)⟩
    have hc := edge_cn (hv := hv) (e := k) (by omega) (hd _) (hd _)
    have hch : ch es hv k = [2 * k] := ch_is (x := 2 * k) hc (by simp) (by omega)
    have hf : First es hv k := fun e' h => by
      rw [hch] at h
      rw [by_one h]
      exact Nat.le_refl _
    rw [rows_yes hf, rows_plain hd (by omega), hch, Si.take_snoc hp, List.map_append]
    have hok := hv.each k p hp
    unfold Si.ok at hok
    have hfr := Cs.fr_even hp
    congr 1
    have e0 : vs (gs es hv) [2 * k] = [Cs.fr es (2 * k), Cs.to es (2 * k)] := by
      show [Cs.fr es (2 * k), (gs es hv).to (2 * k)] = _
      rw [gs_to]
    rw [e0]
    show [[(Cs.fr es (2 * k) : Int), (Cs.to es (2 * k) : Int)]] = [[p.1, p.2]]
    rw [hfr.1, hfr.2]
    congr 2
    · omega
    · congr 1
      omega
theorem all_short (hd : ∀ v, v < es.length → dg es v ≠ 2) (h : ∀ v, es.length ≤ v → dg es v ≠ 2) (v : Nat) : dg es v ≠ 2 := by
  by_cases hv : v < es.length
  · exact hd v hv
  · exact h v (by omega)
end
def e5 : List (Int × Int) := [(0, 1), (0, 2), (0, 3), (0, 4), (1, 2), (1, 3), (1, 4), (2, 3), (2, 4), (3, 4)]
def ep : List (Int × Int) := [(0, 1), (0, 2), (0, 3), (1, 2), (1, 4), (2, 5), (3, 4), (3, 5), (4, 5)]
def e4 : List (Int × Int) := [(0, 1), (0, 2), (1, 2), (2, 3)]
theorem vale5 : Si.Val (5 : Nat) e5 := by
  refine ⟨by decide, by decide, by decide, fun j p hj => ?_, fun j p q hp hq => ?_⟩
  · match j, hj with
    | 0, hj => cases hj; unfold Si.ok; decide
    | 1, hj => cases hj; unfold Si.ok; decide
    | 2, hj => cases hj; unfold Si.ok; decide
    | 3, hj => cases hj; unfold Si.ok; decide
    | 4, hj => cases hj; unfold Si.ok; decide
    | 5, hj => cases hj; unfold Si.ok; decide
    | 6, hj => cases hj; unfold Si.ok; decide
    | 7, hj => cases hj; unfold Si.ok; decide
    | 8, hj => cases hj; unfold Si.ok; decide
    | 9, hj => cases hj; unfold Si.ok; decide
  · match j, hp, hq with
    | 0, hp, hq => cases hp; cases hq; unfold Si.lt; decide
    | 1, hp, hq => cases hp; cases hq; unfold Si.lt; decide
    | 2, hp, hq => cases hp; cases hq; unfold Si.lt; decide
    | 3, hp, hq => cases hp; cases hq; unfold Si.lt; decide
    | 4, hp, hq => cases hp; cases hq; unfold Si.lt; decide
    | 5, hp, hq => cases hp; cases hq; unfold Si.lt; decide
    | 6, hp, hq => cases hp; cases hq; unfold Si.lt; decide
    | 7, hp, hq => cases hp; cases hq; unfold Si.lt; decide
    | 8, hp, hq => cases hp; cases hq; unfold Si.lt; decide
theorem valep : Si.Val (6 : Nat) ep := by
  refine ⟨by decide, by decide, by decide, fun j p hj => ?_, fun j p q hp hq => ?_⟩
  · match j, hj with
    | 0, hj => cases hj; unfold Si.ok; decide
    | 1, hj => cases hj; unfold Si.ok; decide
    | 2, hj => cases hj; unfold Si.ok; decide
    | 3, hj => cases hj; unfold Si.ok; decide
    | 4, hj => cases hj; unfold Si.ok; decide
    | 5, hj => cases hj; unfold Si.ok; decide
    | 6, hj => cases hj; unfold Si.ok; decide
    | 7, hj => cases hj; unfold Si.ok; decide
    | 8, hj => cases hj; unfold Si.ok; decide
  · match j, hp, hq with
    | 0, hp, hq => cases hp; cases hq; unfold Si.lt; decide
    | 1, hp, hq => cases hp; cases hq; unfold Si.lt; decide
    | 2, hp, hq => cases hp; cases hq; unfold Si.lt; decide
    | 3, hp, hq => cases hp; cases hq; unfold Si.lt; decide
    | 4, hp, hq => cases hp; cases hq; unfold Si.lt; decide
    | 5, hp, hq => cases hp; cases hq; unfold Si.lt; decide
    | 6, hp, hq => cases hp; cases hq; unfold Si.lt; decide
    | 7, hp, hq => cases hp; cases hq; unfold Si.lt; decide
theorem vale4 : Si.Val (4 : Nat) e4 := by
  refine ⟨by decide, by decide, by decide, fun j p hj => ?_, fun j p q hp hq => ?_⟩
  · match j, hj with
    | 0, hj => cases hj; unfold Si.ok; decide
    | 1, hj => cases hj; unfold Si.ok; decide
    | 2, hj => cases hj; unfold Si.ok; decide
    | 3, hj => cases hj; unfold Si.ok; decide
  · match j, hp, hq with
    | 0, hp, hq => cases hp; cases hq; unfold Si.lt; decide
    | 1, hp, hq => cases hp; cases hq; unfold Si.lt; decide
    | 2, hp, hq => cases hp; cases hq; unfold Si.lt; decide

theorem dg_far {es : List (Int × Int)} {v : Nat} (h : ∀ i, i < 2 * es.length → Cs.fr es i ≠ v) : dg es v = 0 := by
  unfold dg
  generalize 2 * es.length = k at h
  induction k with
  | zero => rfl
  | succ k ih =>
    unfold Cs.out
    rw [if_neg (h k (by omega))]
    exact ih fun i hi => h i (by omega)
theorem d5 (v : Nat) : dg e5 v ≠ 2 := by
  by_cases h : v < 5
  · match v, h with
    | 0, _ | 1, _ | 2, _ | 3, _ | 4, _ => decide
  · rw [dg_far]
    · decide
    · intro i hi e
      have : ∀ i, i < 20 → Cs.fr e5 i < 5 := by decide
      have := this i hi
      omega
theorem dp (v : Nat) : dg ep v ≠ 2 := by
  by_cases h : v < 6
  · match v, h with
    | 0, _ | 1, _ | 2, _ | 3, _ | 4, _ | 5, _ => decide
  · rw [dg_far]
    · decide
    · intro i hi e
      have : ∀ i, i < 18 → Cs.fr ep i < 6 := by decide
      have := this i hi
      omega
def P5 : List (List Int) := [[0, 1], [0, 2], [0, 3], [0, 4], [1, 2], [1, 3], [1, 4], [2, 3], [2, 4], [3, 4]]
def Pp : List (List Int) := [[0, 1], [0, 2], [0, 3], [1, 2], [1, 4], [2, 5], [3, 4], [3, 5], [4, 5]]
theorem rows5 (hv : Si.Val ((5 : Nat) : Int) e5) : rows e5 hv e5.length = P5 := rows_plain d5 (Nat.le_refl _)
theorem rowsp (hv : Si.Val ((6 : Nat) : Int) ep) : rows ep hv ep.length = Pp := rows_plain dp (Nat.le_refl _)
theorem brs5 : brs e5 5 = [0, 1, 2, 3, 4] := by decide
theorem brsp : brs ep 6 = [0, 1, 2, 3, 4, 5] := by decide
theorem rec5 (hv : Si.Val ((5 : Nat) : Int) e5) : recA (rows e5 hv e5.length) e5 5 = some (1, [0, 1, 2, 3, 4], P5) := by
  rw [rows5, recA_5 (by rw [brs5]; rfl) (by rw [brs5]; decide), brs5]
  show kur P5 1 [0, 1, 2, 3, 4] (pout [0, 1, 2, 3, 4] 5) = _
  rw [pout5]
  unfold kur
  have hA : All P5 [(0, 1), (0, 2), (0, 3), (0, 4), (1, 2), (1, 3), (1, 4), (2, 3), (2, 4), (3, 4)] := by
    refine ⟨rfl, fun p hp => ?_⟩
    simp only [List.mem_cons, List.not_mem_nil, or_false] at hp
    rcases hp with rfl | rfl | rfl | rfl | rfl | rfl | rfl | rfl | rfl | rfl
    · exact ⟨0, by decide⟩
    · exact ⟨1, by decide⟩
    · exact ⟨2, by decide⟩
    · exact ⟨3, by decide⟩
    · exact ⟨4, by decide⟩
    · exact ⟨5, by decide⟩
    · exact ⟨6, by decide⟩
    · exact ⟨7, by decide⟩
    · exact ⟨8, by decide⟩
    · exact ⟨9, by decide⟩
  rw [if_pos hA]
  have : List.map (pathOf P5) [(0, 1), (0, 2), (0, 3), (0, 4), (1, 2), (1, 3), (1, 4), (2, 3), (2, 4), (3, 4)] = P5 := by decide
  rw [this]
theorem recp (hv : Si.Val ((6 : Nat) : Int) ep) : recA (rows ep hv ep.length) ep 6 = none := by
  have hn : nearK Pp [0, 1, 2, 3, 4, 5] 6 = [0, 4, 5] := by decide
  have hf : farK Pp [0, 1, 2, 3, 4, 5] 6 = [1, 2, 3] := by decide
  have hz : ZL (brs ep 6) = [0, 1, 2, 3, 4, 5] := by rw [brsp]; rfl
  rw [rowsp, recA_6 (by rw [brsp]; rfl) (by rw [brsp]; decide) (by rw [hz, hn]; rfl), hz, hn, hf, cout3]
  unfold kur
  rw [if_neg]
  intro hA
  obtain ⟨i, hi⟩ := hA.2 (4, 2) (by simp)
  have : idx Pp (4, 2) = none := by decide
  rw [this] at hi
  cases hi
theorem rows4 (hv : Si.Val ((4 : Nat) : Int) e4) : rows e4 hv e4.length = [[2, 0, 1, 2], [2, 3]] := by
  have c1 : Cn (gs e4 hv) [3, 0, 4] := by
    refine ⟨fun x hx => ?_, ?_, .inl ⟨fun i a b ha hb => ?_, by simp, fun a ha => ?_, fun a ha => ?_⟩⟩
    · show x < 8
      simp at hx
      omega
    · rw [vs_cons, show Cs.fr e4 3 :: List.map (Cs.to e4) [3, 0, 4] = [2, 0, 1, 2] by decide]
      exact .inr ⟨rfl, by decide⟩
    · match i, ha, hb with
      | 0, ha, hb => cases ha; cases hb; show nxt e4 3 = some 0; decide
      | 1, ha, hb => cases ha; cases hb; show nxt e4 0 = some 4; decide
    · cases ha
      rw [gs_nx, gs_tw]
      decide
    · cases ha
      show nxt e4 4 = none
      decide
  have c2 : Cn (gs e4 hv) [6] := edge_cn (e := 3) (by decide) (by decide) (by decide)
  have h0 : ch e4 hv 0 = [3, 0, 4] := ch_is c1 (x := 0) (by simp) rfl
  have h1 : ch e4 hv 1 = [3, 0, 4] := ch_is c1 (x := 3) (by simp) rfl
  have h2 : ch e4 hv 2 = [3, 0, 4] := ch_is c1 (x := 4) (by simp) rfl
  have h3 : ch e4 hv 3 = [6] := ch_is c2 (x := 6) (by simp) rfl
  have f0 : First e4 hv 0 := fun e' _ => Nat.zero_le _
  have f1 : ¬ First e4 hv 1 := fun h => by
    have := h 0 (by rw [h1]; exact ⟨0, by simp, rfl⟩)
    omega
  have f2 : ¬ First e4 hv 2 := fun h => by
    have := h 0 (by rw [h2]; exact ⟨0, by simp, rfl⟩)
    omega
  have f3 : First e4 hv 3 := fun e' h => by
    rw [h3] at h
    have := by_one (e := 3) h
    omega
  show rows e4 hv 4 = _
  rw [rows_yes f3, rows_no f2, rows_no f1, rows_yes f0, h0, h3, vs_cons, vs_cons, show Cs.fr e4 3 :: List.map (Cs.to e4) [3, 0, 4] = [2, 0, 1, 2] by decide, show Cs.fr e4 6 :: List.map (Cs.to e4) [6] = [2, 3] by decide]
  rfl
end Ku
end Go.Proofs.Ytdhaaodalchpkaa
