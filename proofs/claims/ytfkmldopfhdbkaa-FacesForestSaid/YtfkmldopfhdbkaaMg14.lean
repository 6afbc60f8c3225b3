import Derived.Test.YtfkmldopfhdbkaaMg07
import Derived.Test.YtfkmldopfhdbkaaMg03
import Derived.Test.YtfkmldopfhdbkaaMg06
import Derived.Maps.RangeWalk
import Derived.Maps.OwnOps
import Derived.Test.YtfkmldopfhdbkaaMg08
import Derived.BigRegion
import Derived.Deep.RegionLaw
import Derived.Deep.RegionHeld3
import Derived.Deep.CutBlock
import Derived.Deep.CutRange
import Derived.Test.YtfkmldopfhdbkaaMg04
import Derived.Test.YtfkmldopfhdbkaaMg05
/-
  Faces, the program: the map of counts; add.
-/
namespace Go.Proofs.Ytfkmldopfhdbkaa
open Go.RowKit Go.Maps

/-- How counts read. -/
def cntElem (v : Value) : Option (DataW Unit × List MemPlace) :=
  match v with
  | .agg cs =>
    match cs.toList with
    | [.int .i64 a, .int .i64 b, .int .i64 c] => some (.agg [.lit (.int .i64 a), .lit (.int .i64 b), .lit (.int .i64 c)], [])
    | _ => none
  | _ => none
theorem cntElem_mk (a b c : Int) : cntElem (.agg #[.int .i64 a, .int .i64 b, .int .i64 c]) = some (.agg [.lit (.int .i64 a), .lit (.int .i64 b), .lit (.int .i64 c)], []) := rfl
theorem cntElem_inv {v : Value} {y : DataW Unit × List MemPlace} (h : cntElem v = some y) : ∃ a b c : Int, v = .agg #[.int .i64 a, .int .i64 b, .int .i64 c] ∧ y = (.agg [.lit (.int .i64 a), .lit (.int .i64 b), .lit (.int .i64 c)], []) := by
  unfold cntElem at h
  split at h
  · rename_i cs
    split at h
    · rename_i a b c e
      refine ⟨a, b, c, ?_, (Option.some.inj h).symm⟩
      obtain ⟨l⟩ := cs
      simp only at e
      rw [e]
    · cases h
  · cases h

theorem lawI : Keyed Try.prog 3 := int_keyed Try.underlying3
theorem zeroCnt (w : World) : (zeroValue 69).run Try.prog w = .ok (.agg #[.int .i64 0, .int .i64 0, .int .i64 0]) w := by kernel_rfl

/-- What counts read as. -/
def cD (a b c : Nat) : DataW Unit := .agg [.lit (.int .i64 (a : Int)), .lit (.int .i64 (b : Int)), .lit (.int .i64 (c : Int))]
/-- A key. -/
def kJ (j : Nat) : Lit := .int .i64 (j : Int)
theorem kJ_inj {i j : Nat} (h : kJ i = kJ j) : i = j := by
  unfold kJ at h
  injection h with _ h
  omega

/-- Block b is a map of counts: hs j: is there an entry of j; x, y, z: what it counts. -/
structure PMD (w : World) (b n : Nat) (hs : Nat → Bool) (x y z : Nat → Nat) (D : DataW Unit) : Prop where
  own : w.ownsMap Try.prog 3 cntElem b n D
  at_ : ∀ j, D.atKey (kJ j) (cD 0 0 0) = cD (x j) (y j) (z j)
  has : ∀ kl, Maps.has D kl = true ↔ ∃ j, kl = kJ j ∧ hs j = true
def PM (w : World) (b n : Nat) (hs : Nat → Bool) (x y z : Nat → Nat) : Prop := ∃ D, PMD w b n hs x y z D

theorem PM.kept {w w' : World} {b n : Nat} {hs : Nat → Bool} {x y z : Nat → Nat} (h : PM w b n hs x y z) (hb : w'.heap[b]? = w.heap[b]?) : PM w' b n hs x y z := by
  obtain ⟨D, ⟨es, clock, h1, h2⟩, h3, h4⟩ := h
  exact ⟨D, ⟨es, clock, hb.trans h1, h2⟩, h3, h4⟩
theorem PM.lt {w : World} {b n : Nat} {hs : Nat → Bool} {x y z : Nat → Nat} (h : PM w b n hs x y z) : b < w.heap.size := by
  obtain ⟨D, h1, _⟩ := h
  exact h1.lt

theorem wf_small {j : Nat} (h : j ≤ 4611686018427387904) : (Lit.int .i64 (j : Int)).wf = true := by
  have e1 : IntKind.i64.min = -9223372036854775808 := rfl
  have e2 : IntKind.i64.max = 9223372036854775807 := rfl
  simp only [Lit.wf, Bool.and_eq_true, decide_eq_true_eq, e1, e2]
  omega

theorem kJ_key (j : Nat) : WideAt.IsKeyLit (kJ j) := trivial

/-- 'm[j] = counts'. -/
theorem wpList_pmUpdate {ops : Array Oper} {rest : List Oper} {o : Oper} {a : Act} {Q : Exit → Act → World → Prop} (hgd : o.guard = none) (m k v : Operand) (ho : o.op = Op.mapUpdate 66 m k v) (w W : World) (b n : Nat) (hs : Nat → Bool) (x y z : Nat → Nat) (h : PM w b n hs x y z) (hW : Below w.heap.size w W)
    (hn : n ≤ 4611686018427387904) (j c1 c2 c3 : Nat) (hj : j ≤ 4611686018427387904) (hm : a.eval m = .map (some b)) (hk : a.eval k = .int .i64 (j : Int)) (hv : a.eval v = .agg #[.int .i64 (c1 : Int), .int .i64 (c2 : Int), .int .i64 (c3 : Int)])
    (hK : ∀ w', PM w' b (n + 1) (Co.updB hs j true) (Co.upd x j c1) (Co.upd y j c2) (Co.upd z j c3) → Wrote (fun k => k = b) w w' → wpList Try.prog ops Q rest (a.put o.dst undef) w') : wpList Try.prog ops Q (o :: rest) a W := by
  have hlt := h.lt
  obtain ⟨D, hD, hat, hhas⟩ := h
  have hown : W.ownsMap Try.prog 3 cntElem b n D := by
    obtain ⟨es, clock, h1, h2⟩ := hD
    exact ⟨es, clock, (hW.block b hlt).trans h1, h2⟩
  have hmap := hown.isMap
  refine wpList_mapUpdate_own W hgd m k v 66 ho 3 69 lawI Try.underlying66 cntElem b n D hm hown (by unfold maxLen; omega) _ _ (kJ j) hk hv (keyOf_int_mk Try.underlying3 (wf_small hj)) _ [] (cntElem_mk _ _ _) ?_
  intro w' ho' hg'
  refine hK w' ⟨_, ho', fun i => ?_, fun kl => ?_⟩ ⟨hg'.os.trans hW.os, hg'.tape.trans hW.tape, hg'.output.trans hW.output, Nat.le_trans hW.size hg'.size, fun i hi hne => (hg'.block i (Nat.lt_of_lt_of_le hi hW.size) (fun e => hne (Option.some.inj e))).trans (hW.block i hi)⟩
  · by_cases e : i = j
    · subst e
      rw [atKey_put_same hmap (kJ_key i), Co.upd_same, Co.upd_same, Co.upd_same]
      rfl
    · rw [atKey_put_other (fun h => e (kJ_inj h)), Co.upd_other _ e, Co.upd_other _ e, Co.upd_other _ e]
      exact hat i
  · by_cases e : kl = kJ j
    · subst e
      rw [has_put_same hmap (kJ_key j)]
      exact ⟨fun _ => ⟨j, rfl, Co.updB_same _ _ _⟩, fun _ => rfl⟩
    · rw [has_put_other e, hhas]
      constructor
      · rintro ⟨i, rfl, hi⟩
        exact ⟨i, rfl, by rw [Co.updB_other _ (fun h => e (by rw [h]))]; exact hi⟩
      · rintro ⟨i, rfl, hi⟩
        exact ⟨i, rfl, by rwa [Co.updB_other _ (fun h => e (by rw [h]))] at hi⟩

set_option maxRecDepth 100000 in
set_option maxHeartbeats 4000000 in
theorem add_any (b n : Nat) (hs : Nat → Bool) (x y z : Nat → Nat) (j a1 a2 a3 : Nat) (w : World) (h : PM w b n hs x y z) (hn : n ≤ 4611686018427387904) (hj : j ≤ 4611686018427387904) (h1 : x j + a1 ≤ 4611686018427387904) (h2 : y j + a2 ≤ 4611686018427387904) (h3 : z j + a3 ≤ 4611686018427387904) :
    Calls Try.prog 51 #[.map (some b), .int .i64 (j : Int), .agg #[.int .i64 (a1 : Int), .int .i64 (a2 : Int), .int .i64 (a3 : Int)]] w fun e w' => e = .returned (.tuple #[]) ∧ PM w' b (n + 1) (Co.updB hs j true) (Co.upd x j (x j + a1)) (Co.upd y j (y j + a2)) (Co.upd z j (z j + a3)) ∧ Wrote (fun k => k = b) w w' := by
  have hlt := h.lt
  obtain ⟨D, hD, hat, hhas⟩ := h
  obtain ⟨w1, hw1⟩ : ∃ w1, w1 = w.alloc (.cells #[.int .i64 (a1 : Int), .int .i64 (a2 : Int), .int .i64 (a3 : Int)] 69) := ⟨_, rfl⟩
  have hown1 : w1.ownsMap Try.prog 3 cntElem b n D := by rw [hw1]; exact hD.alloc _
  have hkey : keyOf Try.prog 3 (.int .i64 (j : Int)) = some (kJ j) := keyOf_int_mk Try.underlying3 (wf_small hj)
  obtain ⟨v, ps, hrun, hv⟩ := hown1.lookup (t := 66) lawI Try.underlying66 (zeroCnt w1) (cntElem_mk 0 0 0) hkey
  have e0 : (DataW.agg [.lit (.int .i64 0), .lit (.int .i64 0), .lit (.int .i64 0)] : DataW Unit) = cD 0 0 0 := rfl
  rw [e0, hat j] at hv
  obtain ⟨v1, v2, v3, rfl, hve⟩ := cntElem_inv hv
  unfold cD at hve
  simp only [Prod.mk.injEq, DataW.agg.injEq, List.cons.injEq, DataW.lit.injEq, Lit.int.injEq, true_and, and_true] at hve
  obtain ⟨⟨k1, k2, k3⟩, -⟩ := hve
  subst k1 k2 k3
  have q1 : IntKind.i64.wrap ((x j : Int) + (a1 : Int)) = (x j : Int) + (a1 : Int) := by rw [IntKind.wrap_i64]; omega
  have q2 : IntKind.i64.wrap ((y j : Int) + (a2 : Int)) = (y j : Int) + (a2 : Int) := by rw [IntKind.wrap_i64]; omega
  have q3 : IntKind.i64.wrap ((z j : Int) + (a3 : Int)) = (z j : Int) + (a3 : Int) := by rw [IntKind.wrap_i64]; omega
  rw [hw1] at hrun
  have HP : Hid (PM w b n hs x y z) := ⟨D, hD, hat, hhas⟩
  clear hD hat hhas hv hw1 hown1 hkey e0
  go_enter Try.func51, Try.ntmps51
  go_wp2_with (at_mapUpdate; refine wpList_pmUpdate rfl _ _ _ rfl w _ b n hs x y z HP.out (by repeat (first | exact Below.refl _ _ | refine Below.setCell ?_ (by simp) _ | refine Below.alloc ?_ (by first | (simp; done) | (simp; omega)) _)) hn j (x j + a1) (y j + a2) (z j + a3) hj rfl rfl rfl ?_; refine Hid.out ?_)
  refine Nu.hid ?_
  intro w' hp' hw'
  go_wp2
  go_end0
  exact ⟨rfl, hp', hw'⟩

end Go.Proofs.Ytfkmldopfhdbkaa

/-
  Faces, pure: what the map counts in the end.
-/
namespace Go.Proofs.Ytfkmldopfhdbkaa
namespace Fa
open Pl Co

/-- The first of a face. -/
def hd (l : List Nat) : Nat := l.headD 0
/-- How many of the first k faces lie in component j. -/
def zF (N : Nat) (es : List (Int × Int)) (fs : List (List Nat)) (j k : Nat) : Nat := cntTo (fun i => decide (num (cp N es) (Cs.fr es (hd (fs.getD i []))) = j)) k

theorem cntTo_up (p : Nat → Bool) {a b : Nat} (h : a ≤ b) : cntTo p a ≤ cntTo p b := by
  induction b with
  | zero =>
    have : a = 0 := by omega
    rw [this]
    exact Nat.le_refl _
  | succ b ih =>
    by_cases e : a = b + 1
    · rw [e]
      exact Nat.le_refl _
    · have := ih (by omega)
      show cntTo p a ≤ cntTo p b + _
      omega

/-- Counting over a list that is filtered. -/
theorem cntTo_take (q : Nat → Bool) (l : List Nat) : ∀ k, k ≤ l.length → cntTo (fun i => q (l.getD i 0)) k = ((l.take k).filter q).length
  | 0, _ => by simp [cntTo]
  | k + 1, hk => by
    have hx : l[k]? = some l[k] := by simp
    show cntTo (fun i => q (l.getD i 0)) k + (if q (l.getD k 0) = true then 1 else 0) = _
    rw [cntTo_take q l k (by omega), List.take_add_one, hx, List.filter_append, List.length_append, List.getD_eq_getElem?_getD, hx]
    by_cases h : q l[k] = true
    · simp [h]
    · simp [h]
theorem cntTo_list (q : Nat → Bool) (l : List Nat) : cntTo (fun i => q (l.getD i 0)) l.length = (l.filter q).length := by
  rw [cntTo_take q l l.length (Nat.le_refl _), List.take_length]

section
variable {N : Nat} {es : List (Int × Int)} {ls : List (List Int)} {m : Nat → Nat}

theorem zF_all (h : Ro.Rot N es ls) (hm : Orb (2 * es.length) (ph es ls) m) (j : Nat) : zF N es (facesTo (ph es ls) (2 * es.length) (2 * es.length)) j (facesTo (ph es ls) (2 * es.length) (2 * es.length)).length = cF N es m j (2 * es.length) := by
  have e := facesTo_eq (ph_per h) hm (2 * es.length) (Nat.le_refl _)
  have e1 := cntTo_list (fun x => decide (num (cp N es) (Cs.fr es x) = j)) ((List.range (2 * es.length)).filter (fix m))
  have e2 : cF N es m j (2 * es.length) = (((List.range (2 * es.length)).filter (fix m)).filter (fun x => decide (num (cp N es) (Cs.fr es x) = j))).length := by
    unfold cF
    rw [cntTo_filter, List.filter_filter]
    congr 1
    refine List.filter_congr fun x _ => ?_
    unfold fix
    exact Bool.and_comm _ _
  rw [e2, ← e1]
  unfold zF
  rw [e, List.length_map]
  refine cntTo_congr _ fun i hi => ?_
  have e3 : hd ((((List.range (2 * es.length)).filter (fix m)).map (face (ph es ls) (2 * es.length))).getD i []) = ((List.range (2 * es.length)).filter (fix m)).getD i 0 := by
    rw [List.getD_eq_getElem?_getD, List.getD_eq_getElem?_getD, List.getElem?_map, List.getElem?_eq_getElem hi]
    rfl
  rw [e3]

/-- Which numbers are numbers of components. -/
theorem cV_pos {j : Nat} : 0 < cV N es j N ↔ j < cnt N (cp N es) := by
  have hn := (cp_gen (N := N) (es := es)).norm
  constructor
  · intro h
    have : ∃ v, v < N ∧ num (cp N es) v = j := Classical.byContradiction fun hc => by
      have : cV N es j N = 0 := by
        unfold cV
        rw [cntTo_congr (q := fun e => decide (e = N)) N (fun i hi => by
          have h1 : ¬ num (cp N es) i = j := fun e => hc ⟨i, hi, e⟩
          have h2 : ¬ i = N := by omega
          simp [h1, h2]), cntTo_one, if_neg (by omega)]
      omega
    obtain ⟨v, hv, rfl⟩ := this
    exact num_lt hn hv
  · intro h
    have h0 : j < ((List.range N).filter (fix (cp N es))).length := by rw [← cntTo_filter]; exact h
    obtain ⟨r, hr⟩ : ∃ r, ((List.range N).filter (fix (cp N es)))[j]? = some r := ⟨_, List.getElem?_eq_getElem h0⟩
    obtain ⟨h1, h2⟩ := List.mem_filter.1 (List.mem_of_getElem? hr)
    rw [List.mem_range] at h1
    have h4 := filter_at (fix (cp N es)) h1 h2
    have hnd : ((List.range N).filter (fix (cp N es))).Nodup := List.Pairwise.filter _ List.nodup_range
    obtain ⟨a1, a2⟩ := List.getElem?_eq_some_iff.1 hr
    obtain ⟨b1, b2⟩ := List.getElem?_eq_some_iff.1 h4
    have hj : cntTo (fix (cp N es)) r = j := by
      rcases Nat.lt_trichotomy (cntTo (fix (cp N es)) r) j with c | c | c
      · exact absurd (b2.trans a2.symm) (List.pairwise_iff_getElem.1 hnd _ _ b1 a1 c)
      · exact c
      · exact absurd (a2.trans b2.symm) (List.pairwise_iff_getElem.1 hnd _ _ a1 b1 c)
    unfold cV
    refine cntTo_pos (x := r) N h1 ?_
    rw [decide_eq_true_iff, ← hj]
    exact (num_eq hn h1 h2).2 (of_decide_eq_true h2)
end
end Fa
end Go.Proofs.Ytfkmldopfhdbkaa

/-
  Join.
-/
namespace Go.Proofs.Ytfkmldopfhdbkaa
open Go.RowKit

set_option maxRecDepth 100000 in
set_option maxHeartbeats 8000000 in
theorem join_any (q : Option (Nat × Nat × Nat)) (n : Nat) (m : Nat → Nat) (x y : Int) (w : World) (h : SetsQ w q n m) : Calls Try.prog 41 #[.pointer (ptrQ q), .int .i64 x, .int .i64 y] w (JoinPost q n m x y w) := by
  have hvt : ∀ z, Co.isIn n z → Calls Try.prog 58 #[.pointer (ptrQ q), .int .i64 z] w fun e w' => e = .returned (.bool true) ∧ w' = w := fun z hz => by
    have := has_any (ptrQ q) n m z w h.is
    rw [decide_eq_true hz] at this
    exact this
  have hvf : ∀ z, ¬ Co.isIn n z → Calls Try.prog 58 #[.pointer (ptrQ q), .int .i64 z] w fun e w' => e = .returned (.bool false) ∧ w' = w := fun z hz => by
    have := has_any (ptrQ q) n m z w h.is
    rw [decide_eq_false hz] at this
    exact this
  have HVT := Nu.hid hvt
  have HVF := Nu.hid hvf
  clear hvt hvf
  by_cases hx : Co.isIn n x
  · by_cases hy : Co.isIn n y
    · have hxl := Co.isIn_lt hx
      have hyl := Co.isIn_lt hy
      rcases q with _ | ⟨p, gp, gt⟩
      · obtain rfl : n = 0 := h
        omega
      · obtain ⟨hn, P, S, L, r, d, h, hf⟩ := h
        obtain ⟨a, rfl⟩ : ∃ u : Nat, x = (u : Int) := ⟨x.toNat, by unfold Co.isIn at hx; omega⟩
        obtain ⟨b, rfl⟩ : ∃ u : Nat, y = (u : Int) := ⟨y.toNat, by unfold Co.isIn at hy; omega⟩
        rw [Int.toNat_natCast] at hxl hyl
        have HR := Nu.hid (fun k (z : Nat) (hz : z < n) => root_of h hf hz k)
        have c0 := h.c0
        have hsm := hf.same a b hxl hyl
        unfold ptrQ at *
        by_cases he : r a = r b
        · have hd : ((r a : Int) == (r b : Int)) = true := by simp [he]
          have hap : Co.apart n m a b = false := by
            unfold Co.apart
            refine decide_eq_false (fun h => h.2.2 ?_)
            simpa using hsm.1 he
          have HEND : Hid (∀ k, JoinPost (some (p, gp, gt)) n m a b w (.returned (.bool false)) (w.drewN k)) := by
            intro k
            refine ⟨by rw [hap], ?_, (Wrote.refl _ _).drewN k⟩
            have hj : Co.joinI n m a b = m := by unfold Co.joinI; rw [hap]; rfl
            rw [hj]
            exact SetsQ.later (q := some (p, gp, gt)) (w := w) ⟨hn, P, S, L, r, d, h, hf⟩ (below_drewN (Below.refl _ _) k)
          clear h hf hsm hap he
          go_enter Try.func41, Try.ntmps41
          go_wp2_with (go_at_call 58; refine (HVT.out _ (by assumption)).mono ?_; rintro e w1 ⟨rfl, rfl⟩)
          go_quiet ((go_at_call 59; refine Calls.quiet_of_same (HR.out _ _ ?_); assumption))
          go_wp2
          go_ret
          exact HEND.out nq
        · have hd : ((r a : Int) == (r b : Int)) = false := by simp; omega
          have hma : m a ≠ m b := fun e => he (hsm.2 e)
          have hap : Co.apart n m a b = true := Co.apart_iff.2 ⟨hx, hy, by simpa using hma⟩
          have hj : Co.joinI n m a b = Co.join m a b := by unfold Co.joinI; rw [hap]; simp
          obtain ⟨c, hc⟩ : ∃ c, Co.cnt n (Co.join m a b) = c := ⟨_, rfl⟩
          have hcc := Co.cnt_join hf.norm hxl hyl hma
          rw [hc] at hcc
          rw [← hcc] at h
          have hra := hf.rt a hxl
          have hrb := hf.rt b hyl
          have c1 := h.c1
          have sa := (h.tre.cell hra).1
          have sb := (h.tre.cell hrb).1
          have ra0 : (0 : Int) ≤ (r a : Int) := by omega
          have ra1 : (r a : Int) < (n : Int) := by omega
          have rb0 : (0 : Int) ≤ (r b : Int) := by omega
          have rb1 : (r b : Int) < (n : Int) := by omega
          have hcn : c ≤ 1048576 := by have := Co.cnt_le n m; omega
          have HALL : Hid (∀ a' b', ((a' = a ∧ b' = b) ∨ (a' = b ∧ b' = a)) → a' < n ∧ b' < n ∧ r a' ≠ r b' ∧ Co.join m a' b' = Co.join m a b) := by
            rintro a' b' (⟨rfl, rfl⟩ | ⟨rfl, rfl⟩)
            · exact ⟨hxl, hyl, he, rfl⟩
            · exact ⟨hyl, hxl, Ne.symm he, Co.join_comm m _ _⟩
          have HH := Nu.hid h
          have HF := Nu.hid hf
          have HJ := Nu.hid hj
          have HC := Nu.hid hc
          have HAP := Nu.hid hap
          clear h hf hsm hap hj hc hcc hma he
          go_enter Try.func41, Try.ntmps41
          go_wp2_with (go_at_call 58; refine (HVT.out _ (by assumption)).mono ?_; rintro e w1 ⟨rfl, hw1⟩; obtain rfl := hw1.symm)
          go_quiet ((go_at_call 59; refine Calls.quiet_of_same (HR.out _ _ ?_); assumption))
          clear HVT HVF HR
          go_wp2_with fail
          go_quiet (fail)
          go_upto_if 50 with fail
          go_cut [7, 8] from 50 to 52 (fun u v wr => ∃ (a' b' k : Nat), u = .int .i64 (r a' : Int) ∧ v = .int .i64 (r b' : Int) ∧ ((a' = a ∧ b' = b) ∨ (a' = b ∧ b' = a)) ∧ wr = w.drewN k)
          case first =>
            by_cases hlt : S (r a) < S (r b)
            · have hlti : (S (r a) : Int) < (S (r b) : Int) := by omega
              go_wp2
              go_meet
              exact ⟨b, a, _, rfl, rfl, .inr ⟨rfl, rfl⟩, by first | rfl | rw [World.drewN_drewN]⟩
            · have hlti : ¬ (S (r a) : Int) < (S (r b) : Int) := by omega
              go_wp2
              go_meet
              exact ⟨a, b, _, rfl, rfl, .inl ⟨rfl, rfl⟩, by first | rfl | rw [World.drewN_drewN]⟩
          case rest =>
            obtain ⟨a', b', k, rfl, rfl, hor, hwc⟩ := hcut
            obtain ⟨hal, hbl, hrne, hjj⟩ := HALL.out a' b' hor
            have hH : SetsHolds wc p gp gt n (c + 1) P S L := by rw [hwc]; exact HH.out.same (fun _ _ _ => rfl)
            have HWR0 : Hid (∀ V, Wrote (fun b => b = p ∨ b = gp ∨ b = gt) wc V → Wrote (fun b => b = p ∨ b = gp ∨ b = gt) w V) := by
              intro V hV
              rw [hwc] at hV
              exact ((Wrote.refl _ w).drewN k).trans hV
            have hA := HF.out.rt a' hal
            have hC := HF.out.rt b' hbl
            obtain ⟨r', d', hnew⟩ := HF.out.hang hal hbl hrne
            have hS1 : S (r a') ≤ 1048576 := by rw [HF.out.sz a' hal]; exact Nat.le_trans (Co.size_le _ _ _) hn
            have hS2 : S (r b') ≤ 1048576 := by rw [HF.out.sz b' hbl]; exact Nat.le_trans (Co.size_le _ _ _) hn
            obtain ⟨A, hAA⟩ : ∃ A, r a' = A := ⟨_, rfl⟩
            obtain ⟨C, hCC⟩ : ∃ C, r b' = C := ⟨_, rfl⟩
            rw [hAA] at hA hnew hS1 ⊢
            rw [hCC] at hC hnew hS2 ⊢
            have HHG := Nu.hid (hang_any gp n P C A wc hH.par hC)
            have HWI := Nu.hid (fun V => with_any (S A) (L A) (S C) (L C) V hS1 hS2)
            obtain ⟨s, hs⟩ : ∃ s, S A + S C = s := ⟨_, rfl⟩
            obtain ⟨l, hl⟩ : ∃ l, min (L A) (L C) = l := ⟨_, rfl⟩
            rw [hs, hl] at HWI hnew
            have HFIN : Hid (∀ W V1, W = wc.setCell ⟨gp, C, none⟩ (.int .i64 (A : Int)) → Below W.heap.size W V1 → JoinPost (some (p, gp, gt)) n m a b w (.returned (.bool true)) (((V1.setCell ⟨gt, A * 2, none⟩ (.int .i64 (s : Int))).setCell ⟨gt, A * 2 + 1, none⟩ (.int .i64 (l : Int))).setCell ⟨p, 2, none⟩ (.int .i64 (c : Int)))) := by
              intro W V1 hW hV
              obtain ⟨f1, f2, -⟩ := joined_blocks hH hC hA s l hW hV
              refine ⟨by rw [HAP.out], ?_, HWR0.out _ f2⟩
              rw [HJ.out, ← hjj]
              rw [hjj] at hnew ⊢
              exact ⟨hn, _, _, _, r', d', by rw [HC.out]; exact f1, hnew⟩
            have c0 := hH.c0
            have HMID := Nu.hid (fun W V1 (hW : W = wc.setCell ⟨gp, C, none⟩ (.int .i64 (A : Int))) hV => join_mid (V1 := V1) hH hC hA s l hW hV)
            have A0 : (0 : Int) ≤ (A : Int) := by omega
            have A1 : (A : Int) < (n : Int) := by omega
            have C0 : (0 : Int) ≤ (C : Int) := by omega
            have C1 : (C : Int) < (n : Int) := by omega
            clear hH hwc hnew hs hl hAA hCC hrne hjj hor HALL HH HF HJ HC HAP HWR0 c1 sa sb hd
            go_wp2_with (go_at_call 60; refine HHG.out.mono ?_; rintro e w1 ⟨rfl, -, hw1⟩; have HW1 := Nu.hid hw1; clear hw1; refine Hid.out ?_)
            refine Nu.hid ?_
            clear c0 HHG
            have hbd : Below w1.heap.size w1 w1.drew := (Below.refl _ _).drew
            obtain ⟨⟨x1, x2, x3, x4, x5, x6⟩, -, -⟩ := HMID.out w1 w1 HW1.out (Below.refl _ _)
            go_wp2_with fail
            go_region_with (go_at_call 61; refine (HWI.out _).mono ?_; rintro e V1 ⟨rfl, hv1⟩; have hb1 : Below w1.heap.size w1 V1 := hbd.trans (hv1.mono hbd.size); obtain ⟨⟨y1, y2, y3, -, -, y6⟩, ⟨z1, z2⟩, -, z4, z5⟩ := HMID.out w1 V1 HW1.out hb1)
            all_goals
              go_wp2
              go_ret
              exact HFIN.out w1 V1 HW1.out hb1
    · have hap : Co.apart n m x y = false := by
        unfold Co.apart
        exact decide_eq_false (fun h => hy h.2.1)
      have hj : Co.joinI n m x y = m := by unfold Co.joinI; rw [hap]; rfl
      unfold JoinPost
      rw [hap, hj]
      have H := Nu.hid h
      clear h hap hj
      go_enter Try.func41, Try.ntmps41
      go_wp2_with (go_at_call 58; first | (refine (HVT.out _ (by assumption)).mono ?_; rintro e w1 ⟨rfl, rfl⟩) | (refine (HVF.out _ (by assumption)).mono ?_; rintro e w1 ⟨rfl, rfl⟩))
      go_ret
      exact ⟨rfl, H.out, Wrote.refl _ _⟩
  · have hap : Co.apart n m x y = false := by
      unfold Co.apart
      exact decide_eq_false (fun h => hx h.1)
    have hj : Co.joinI n m x y = m := by unfold Co.joinI; rw [hap]; rfl
    unfold JoinPost
    rw [hap, hj]
    have H := Nu.hid h
    clear h hap hj
    go_enter Try.func41, Try.ntmps41
    go_wp2_with (go_at_call 58; refine (HVF.out _ (by assumption)).mono ?_; rintro e w1 ⟨rfl, rfl⟩)
    go_ret
    exact ⟨rfl, H.out, Wrote.refl _ _⟩

end Go.Proofs.Ytfkmldopfhdbkaa

/-
  Of.
-/
namespace Go.Proofs.Ytfkmldopfhdbkaa
open Go.RowKit Go.Sort

/-- The sets that the edges make. -/
def Co.ofG (n : Nat) (es : List (Int × Int)) : Nat → Nat := Co.joins n es (fun x => x)

theorem Co.ofG_gen (n : Nat) (es : List (Int × Int)) : Co.Gen n es (Co.ofG n es) := Co.gen_joins n es

def OfPost (n : Int) (es : List (Int × Int)) (w : World) (e : Ending) (w' : World) : Prop :=
  ((∃ (m : Nat) (v : Value), n = (m : Int) ∧ Si.Val n es ∧ e = .returned (.tuple #[v, .int .i64 (Co.cnt m (Co.ofG m es) : Int), .int .i64 0]) ∧ OwnZ w' w.heap.size v (Co.ints m (Co.num (Co.ofG m es)))) ∨ (Si.valid n es = false ∧ e = .returned (.tuple #[.slice none 0 0, .int .i64 0, .int .i64 1]))) ∧ Below w.heap.size w w'

set_option maxRecDepth 100000 in
set_option maxHeartbeats 8000000 in
theorem of_any (n : Int) (ao : Option Addr) (cap : Nat) (es : List (Int × Int)) (w : World) (he : EdgesAt w ao es) (hl : es.length ≤ 4611686018427387904) :
    Calls Try.prog 23 #[graphVal n ao es.length cap] w (OfPost n es w) := by
  have HE := Nu.hid he
  have hva := fun W (hb : Below w.heap.size w W) => valid_any n ao cap es W (he.later hb) hl
  unfold graphVal at hva ⊢
  have HVA := Nu.hid hva
  clear he hva
  have hbw0 : Below w.heap.size w (w.alloc (.cells #[.int .i64 n, .slice ao es.length cap] 24)) := (Below.refl _ _).alloc (Nat.le_refl _) _
  have HBW0 := Nu.hid hbw0
  clear hbw0
  cases hv : Si.valid n es with
  | false =>
    rw [hv] at HVA
    have HV := Nu.hid hv
    clear hv
    go_enter Try.func23, Try.ntmps23
    go_wp2_with (go_at_call 39; refine (HVA.out _ HBW0.out).mono ?_; rintro e w' ⟨rfl, hb⟩; refine Hid.out ?_)
    refine Nu.hid ?_
    have HB := Nu.hid (HBW0.out.trans (hb.mono HBW0.out.size))
    clear hb
    go_wp2
    go_ret3
    exact ⟨.inr ⟨HV.out, rfl⟩, HB.out⟩
  | true =>
    rw [hv] at HVA
    have hval := Si.valid_iff.1 hv
    have hfew := hval.few
    have hlo := hval.lo
    have hhi := hval.hi
    obtain ⟨m, rfl⟩ : ∃ m : Nat, n = (m : Int) := ⟨n.toNat, by omega⟩
    have HVAL := Nu.hid hval
    clear hval hv
    have HNEW := Nu.hid (fun W => new_any (m : Int) W)
    go_enter Try.func23, Try.ntmps23
    go_wp2_with (go_at_call 39; refine (HVA.out _ HBW0.out).mono ?_; rintro e w' ⟨rfl, hb⟩; refine Hid.out ?_)
    refine Nu.hid ?_
    have hG : w'.heap[w.heap.size]? = some (.cells #[.int .i64 m, .slice ao es.length cap] 24 (0, 0)) := (hb.block _ (by simp)).trans (heap_alloc_new w _)
    have HB := Nu.hid (HBW0.out.trans (hb.mono HBW0.out.size))
    have hsG := lt_of_block hG
    have HG := Nu.hid hG
    obtain ⟨g0, g1, -⟩ := pair_cells hG
    clear hb hG HVA
    have hnew := (HNEW.out w').mono (R' := fun e W => ∃ p gp gt : Nat, e = .returned (.tuple #[.pointer (some ⟨p, 0, none⟩), .int .i64 0]) ∧ (SetsOf W p gp gt m (fun x => x) ∧ w'.heap.size ≤ p ∧ w'.heap.size ≤ gp ∧ w'.heap.size ≤ gt) ∧ Below w'.heap.size w' W) (by
      rintro e W ⟨⟨k, p, gp, gt, h1, h2, h3, h4⟩ | ⟨h1, _⟩, hb⟩
      · obtain rfl : m = k := by omega
        exact ⟨p, gp, gt, h3, h4, hb⟩
      · omega)
    have HN := Nu.hid hnew
    clear hnew HNEW
    go_wp2_with (go_at_call 40; refine HN.out.mono ?_; rintro e w2 ⟨p, gp, gt, rfl, hs, hb2⟩; have HS2 := Nu.hid hs; have HB2 := Nu.hid hb2; clear hs hb2; refine Hid.out ?_)
    refine Nu.hid ?_
    obtain ⟨hs0, b1, b2, b3⟩ := HS2.out
    have k1 := (HB2.out.cell (p := ⟨w.heap.size, 1, none⟩) hsG).trans g1
    have HBW2 := Nu.hid (HB.out.trans (HB2.out.mono HB.out.size))
    have hsw := HB.out.size
    have HQ0 : Hid (SetsQ w2 (some (p, gp, gt)) m (fun x => x)) := hs0
    clear hs0 HN g0 g1 HS2
    go_wp2
    go_loopw [21] (fun c wr => ∃ k : Nat, k ≤ es.length ∧ c = .int .i64 (k : Int) ∧ SetsQ wr (some (p, gp, gt)) m (Co.ofG m (es.take k)) ∧ Below w.heap.size w wr) (fun c _ => es.length - (intOf c).toNat)
    case atStart => exact ⟨0, Nat.zero_le _, rfl, HQ0.out, HBW2.out⟩
    case round =>
      obtain ⟨k, hk, rfl, hQ, hb⟩ := hrel
      have HQ := Nu.hid hQ
      have HBR := Nu.hid hb
      by_cases hlt : k < es.length
      · have hlti : (k : Int) < (es.length : Int) := by omega
        have hk0 : (0 : Int) ≤ (k : Int) := by omega
        obtain ⟨q, hq⟩ : ∃ q, es[k]? = some q := ⟨_, List.getElem?_eq_getElem hlt⟩
        obtain ⟨b, o, rfl, c0, c1⟩ := (HE.out.later hb) k q hq
        have hbl : b < wr.heap.size := block_lt_of_cell c0
        have hb3 : Below w.heap.size w (wr.alloc (.cells #[.int .i64 q.1, .int .i64 q.2] 56)) := hb.alloc hb.size _
        have hj := join_any (some (p, gp, gt)) m (Co.ofG m (es.take k)) q.1 q.2 _ (hQ.later ((Below.refl _ _).alloc (Nat.le_refl _) (.cells #[.int .i64 q.1, .int .i64 q.2] 56)))
        have hend : ∀ e w3, JoinPost (some (p, gp, gt)) m (Co.ofG m (es.take k)) q.1 q.2 (wr.alloc (.cells #[.int .i64 q.1, .int .i64 q.2] 56)) e w3 → (∃ t, e = .returned (.bool t)) ∧ SetsQ w3 (some (p, gp, gt)) m (Co.ofG m (es.take (k + 1))) ∧ Below w.heap.size w w3 := by
          rintro e w3 ⟨h1, h2, h3⟩
          refine ⟨⟨_, h1⟩, ?_, hb3.trans (h3.below hb3.size ?_)⟩
          · rw [Si.take_snoc hq]
            unfold Co.ofG
            rw [Co.joins_snoc]
            exact h2
          · rintro x (rfl | rfl | rfl) <;> omega
        have HJ := Nu.hid (hj.mono hend)
        clear hj hend hQ hb hb3 hq
        unfold ptrQ at HJ
        go_wp2_with (go_at_call 41; refine HJ.out.mono ?_; rintro e w3 ⟨⟨t, rfl⟩, h2, h3⟩; have H2 := Nu.hid h2; have H3 := Nu.hid h3; clear h2 h3; refine Hid.out ?_)
        refine Nu.hid ?_
        go_wp2
        go_roundw
        case rel => exact ⟨k + 1, by omega, by go_num, H2.out, H3.out⟩
        case measure => simp [intOf]; omega
      · have hd : ¬ ((k : Int) < (es.length : Int)) := by omega
        rw [List.take_of_length_le (by omega)] at hQ
        have hnum := numbered_any _ m _ wr hQ.is
        have hcnt := fun W (hb : Below wr.heap.size wr W) => count_any _ m _ W (hQ.later hb).is
        unfold ptrQ at hnum hcnt
        have HNUM := Nu.hid hnum
        have HCNT := Nu.hid hcnt
        have hwr := hb.size
        clear hQ hb hnum hcnt HQ
        go_wp2_with (first | (go_at_call 42; refine HNUM.out.mono ?_; rintro e w4 ⟨v, rfl, h4, hb4⟩; have H4 := Nu.hid h4; have HB4 := Nu.hid hb4; clear h4 hb4) | (go_at_call 43; refine (HCNT.out _ HB4.out).mono ?_; rintro e w5 ⟨rfl, hw5⟩; obtain rfl := hw5.symm))
        go_ret3
        exact ⟨.inl ⟨m, v, rfl, HVAL.out, rfl, H4.out.lower hwr⟩, HBR.out.trans (HB4.out.mono hwr)⟩

end Go.Proofs.Ytfkmldopfhdbkaa
