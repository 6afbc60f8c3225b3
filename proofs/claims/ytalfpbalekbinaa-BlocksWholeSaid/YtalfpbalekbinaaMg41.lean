import Derived.Test.YtalfpbalekbinaaMg39
import Derived.Test.YtalfpbalekbinaaMg40
import Derived.Test.YtalfpbalekbinaaMg38
import Derived.Test.YtalfpbalekbinaaMg35
import Derived.Test.YtalfpbalekbinaaMg12
import Derived.Test.YtalfpbalekbinaaMg02
import Derived.Test.YtalfpbalekbinaaMg04
import Derived.Deep.QuietTactic
import Derived.BigQuiet
/-
  Blocks: one answer for each graph, of the program and of the document.
-/
namespace Go.Proofs.Ytalfpbalekbinaa
open Go.RowKit

namespace Bl
open Df Lo
section
variable {n : Nat} {es : List (Int × Int)} {s : St}
/-- Joined by pairs, again and again. -/
def Same9 (es : List (Int × Int)) (i k : Nat) : Prop := ∀ f : Nat → Nat, (∀ a b u, a < es.length → b < es.length → PairE es u a b → f a = f b) → f i = f k
theorem Same9.refl (i : Nat) : Same9 es i i := fun _ _ => rfl
theorem Same9.symm {i k : Nat} (h : Same9 es i k) : Same9 es k i := fun f hf => (h f hf).symm
theorem Same9.trans {i k l : Nat} (h : Same9 es i k) (h' : Same9 es k l) : Same9 es i l := fun f hf => (h f hf).trans (h' f hf)
theorem same_hdf (hv : Si.Val n es) (h : VF n es s) {i k : Nat} (hi : i < es.length) (hk : k < es.length) : hdf es s i = hdf es s k ↔ Same9 es i k := by
  rw [blocks_iff hv h (hdf_of hv h hi) (hdf_of hv h hk)]
  constructor
  · intro hall f hf
    exact hall f fun a b ha hb ⟨u, hp⟩ => hf a b u ha hb ((pairE_iff hv h ha hb).2 hp)
  · intro hall f hf
    exact hall f fun a b u ha hb hp => hf a b ha hb ⟨u, (pairE_iff hv h ha hb).1 hp⟩
open Classical in
/-- The least edge of an edge's block. -/
noncomputable def m9 (es : List (Int × Int)) (e : Nat) : Nat := mn ((List.range es.length).filter fun i => decide (Same9 es i e))
theorem m9_mem {e : Nat} (he : e < es.length) : m9 es e < es.length ∧ Same9 es (m9 es e) e := by
  classical
  have := mn_mem (l := (List.range es.length).filter fun i => decide (Same9 es i e)) (fun h => by
    have : e ∈ (List.range es.length).filter fun i => decide (Same9 es i e) := List.mem_filter.2 ⟨List.mem_range.2 he, by simpa using Same9.refl e⟩
    rw [h] at this
    cases this)
  rw [List.mem_filter, List.mem_range, decide_eq_true_iff] at this
  exact this
theorem m9_le {e i : Nat} (hi : i < es.length) (h : Same9 es i e) : m9 es e ≤ i := by
  classical
  exact mn_le i (List.mem_filter.2 ⟨List.mem_range.2 hi, by simpa using h⟩)
/-- A class function in its one form is this one. -/
theorem m9_one {m : Nat → Nat} (hn : Co.Norm es.length m) (h : ∀ i k, i < es.length → k < es.length → (m i = m k ↔ Same9 es i k)) {e : Nat} (he : e < es.length) : m e = m9 es e := by
  obtain ⟨h1, h2⟩ := m9_mem he
  have h3 := (h _ _ h1 he).2 h2
  have h4 := hn.le _ h1
  have h5 : m9 es e ≤ m e := m9_le (hn.lt he) ((h _ _ (hn.lt he) he).1 (hn.idem e he))
  omega
theorem m9_mB (hv : Si.Val n es) (h : VF n es s) {e : Nat} (he : e < es.length) : mB es s e = m9 es e :=
  m9_one mB_norm (fun _ _ hi hk => (mB_iff hk hi).trans (same_hdf hv h hi hk)) he
theorem m9_cl {m : Nat → Nat} (hv : Si.Val n es) (hc : ClE n es m (fun _ _ _ => True)) {e : Nat} (he : e < es.length) : m e = m9 es e := by
  refine m9_one hc.norm (fun i k hi hk => ?_) he
  obtain ⟨js, h1, h2, h3⟩ := hc
  have hP : ∀ a b u, a < es.length → b < es.length → PairE es u a b → m a = m b := fun a b u ha hb hp => by
    have hu : u < n := by
      obtain ⟨p, q, hp, hq, h4, _⟩ := hp
      have := ends_at hv hp
      omega
    rcases Nat.lt_trichotomy a b with hlt | rfl | hlt
    · have := h1.meets _ (h3 u a b hu hlt hb hp trivial) ⟨by simp, by simpa using ha⟩ ⟨by simp, by simpa using hb⟩
      simpa using this
    · rfl
    · have hp' : PairE es u b a := by
        obtain ⟨p, q, x1, x2, x3, x4, x5⟩ := hp
        exact ⟨q, p, x2, x1, x4, x3, x5.symm⟩
      have := h1.meets _ (h3 u b a hu hlt ha hp' trivial) ⟨by simp, by simpa using hb⟩ ⟨by simp, by simpa using ha⟩
      exact (by simpa using this : m b = m a).symm
  constructor
  · intro hm f hf
    have hM : Co.Meets es.length js f := fun j hj a1 a2 => by
      obtain ⟨x, y⟩ := j
      obtain ⟨a, rfl⟩ : ∃ a : Nat, x = (a : Int) := ⟨x.toNat, by have := a1.1; dsimp only at this; omega⟩
      obtain ⟨b, rfl⟩ : ∃ b : Nat, y = (b : Int) := ⟨y.toNat, by have := a2.1; dsimp only at this; omega⟩
      obtain ⟨u, _, hp⟩ := h2 a b hj
      have := hf a b u (by have := a1.2; dsimp only at this; omega) (by have := a2.2; dsimp only at this; omega) hp
      simpa using this
    rw [← h1.least f hM i hi, ← h1.least f hM k hk, hm]
  · intro hs
    exact hs m hP
theorem m9_norm : Co.Norm es.length (m9 es) := by
  refine ⟨fun x hx => m9_le hx (Same9.refl x), fun x hx => ?_⟩
  obtain ⟨h1, h2⟩ := m9_mem hx
  obtain ⟨h3, h4⟩ := m9_mem h1
  have h5 := m9_le h1 (Same9.refl (m9 es x))
  have h6 := m9_le (e := x) h3 (h4.trans h2)
  omega
/-- The number of an edge's block; how many there are. -/
noncomputable def no9 (es : List (Int × Int)) : Nat → Nat := numB (m9 es)
noncomputable def ct9 (es : List (Int × Int)) : Nat := cntB (m9 es) es.length
theorem no9_of {m : Nat → Nat} (h : ∀ e, e < es.length → m e = m9 es e) : (∀ e, e < es.length → numB m e = no9 es e) ∧ cntB m es.length = ct9 es :=
  ⟨fun _ he => numB_congr m9_norm h he, cntB_congr h⟩

noncomputable def of9 (n : Int) (es : List (Int × Int)) : List Int × Nat × Int := if Si.valid n es = true then (nums es.length (no9 es), ct9 es, 0) else ([], 0, 1)
noncomputable def cu9 (n : Int) (es : List (Int × Int)) : List Int × Int := if Si.valid n es = true then (cutsTo es (no9 es) (ct9 es) n.toNat, 0) else ([], 1)
noncomputable def bs9 (n : Int) (es : List (Int × Int)) : List Int × Int := if Si.valid n es = true then (brTo (no9 es) es.length es.length, 0) else ([], 1)
noncomputable def vb9 (n : Int) (es : List (Int × Int)) (k : Int) : List Int := vsTo es (no9 es) k n.toNat
noncomputable def bl9 (n : Int) (es : List (Int × Int)) (k : Int) : List (Int × Int) × List Int × Int :=
  if Si.valid n es = true then (if k < 0 ∨ (ct9 es : Int) ≤ k then ([], [], 2) else (bkTo es (no9 es) (vb9 n es k) k.toNat es.length, vb9 n es k, 0)) else ([], [], 1)
theorem of9_t {n : Int} {es : List (Int × Int)} (h : Si.valid n es = true) : of9 n es = (nums es.length (no9 es), ct9 es, 0) := if_pos h
theorem of9_f {n : Int} {es : List (Int × Int)} (h : Si.valid n es = false) : of9 n es = ([], 0, 1) := if_neg (by rw [h]; decide)
theorem cu9_t {n : Int} {es : List (Int × Int)} (h : Si.valid n es = true) : cu9 n es = (cutsTo es (no9 es) (ct9 es) n.toNat, 0) := if_pos h
theorem cu9_f {n : Int} {es : List (Int × Int)} (h : Si.valid n es = false) : cu9 n es = ([], 1) := if_neg (by rw [h]; decide)
theorem bs9_t {n : Int} {es : List (Int × Int)} (h : Si.valid n es = true) : bs9 n es = (brTo (no9 es) es.length es.length, 0) := if_pos h
theorem bs9_f {n : Int} {es : List (Int × Int)} (h : Si.valid n es = false) : bs9 n es = ([], 1) := if_neg (by rw [h]; decide)
theorem bl9_f {n k : Int} {es : List (Int × Int)} (h : Si.valid n es = false) : bl9 n es k = ([], [], 1) := if_neg (by rw [h]; decide)
theorem bl9_o {n k : Int} {es : List (Int × Int)} (h : Si.valid n es = true) (hk : k < 0 ∨ (ct9 es : Int) ≤ k) : bl9 n es k = ([], [], 2) := by rw [bl9, if_pos h, if_pos hk]
theorem bl9_t {n : Int} {es : List (Int × Int)} (h : Si.valid n es = true) {k : Nat} (hk : k < ct9 es) : bl9 n es k = (bkTo es (no9 es) (vb9 n es k) k es.length, vb9 n es k, 0) := by
  rw [bl9, if_pos h, if_neg (by omega), Int.toNat_natCast]
theorem of9_length (n : Int) (es : List (Int × Int)) : (of9 n es).1.length ≤ es.length := by
  cases h : Si.valid n es with
  | true => rw [of9_t h]; exact Nat.le_of_eq (nums_length _ _)
  | false => rw [of9_f h]; exact Nat.zero_le _
theorem cu9_length (n : Int) (es : List (Int × Int)) : (cu9 n es).1.length ≤ 1048576 := by
  cases h : Si.valid n es with
  | true =>
    rw [cu9_t h]
    have := (Si.valid_iff.1 h).hi
    exact Nat.le_trans (cutsTo_length _ _ _ _) (by omega)
  | false => rw [cu9_f h]; exact Nat.zero_le _
theorem bs9_length (n : Int) (es : List (Int × Int)) : (bs9 n es).1.length ≤ es.length := by
  cases h : Si.valid n es with
  | true => rw [bs9_t h]; exact brTo_length _ _ _
  | false => rw [bs9_f h]; exact Nat.zero_le _
theorem bl9_length (n k : Int) (es : List (Int × Int)) : (bl9 n es k).1.length ≤ es.length ∧ (bl9 n es k).2.1.length ≤ 1048576 := by
  cases h : Si.valid n es with
  | true =>
    have := (Si.valid_iff.1 h).hi
    by_cases hk : k < 0 ∨ (ct9 es : Int) ≤ k
    · rw [bl9_o h hk]
      exact ⟨Nat.zero_le _, Nat.zero_le _⟩
    · obtain ⟨kk, rfl⟩ : ∃ kk : Nat, k = (kk : Int) := ⟨k.toNat, by omega⟩
      rw [bl9_t h (by omega)]
      exact ⟨bkTo_length _ _ _, Nat.le_trans (vsTo_length _ _) (by omega)⟩
  | false => rw [bl9_f h]; exact ⟨Nat.zero_le _, Nat.zero_le _⟩
end
end Bl

theorem IntsBlk.own9 {w : World} {g B : Nat} {l : List Int} (h : IntsBlk w g l) (hB : B ≤ g) (hm : l.length ≤ maxLen) : OwnZ w B (.slice (some ⟨g, 0, none⟩) l.length l.length) l :=
  ⟨by simp, .inr ⟨g, l.length, (l.map (Value.int .i64)).toArray, rfl, hB, h, Nat.le_refl _, hm, by simp, by
    rw [List.toList_toArray]
    exact List.take_of_length_le (by simp)⟩⟩

/-- What Of answers: the list r.1, the number r.2.1, the error r.2.2. -/
def OfS (r : List Int × Nat × Int) (w : World) (e : Ending) (w' : World) : Prop := ∃ ao c, e = .returned (.tuple #[.slice ao r.1.length c, .int .i64 (r.2.1 : Int), .int .i64 r.2.2]) ∧ OwnZ w' w.heap.size (.slice ao r.1.length c) r.1 ∧ Below w.heap.size w w'
/-- What Cuts and Bridges answer. -/
def LiS (r : List Int × Int) (w : World) (e : Ending) (w' : World) : Prop := ∃ ao c, e = .returned (.tuple #[.slice ao r.1.length c, .int .i64 r.2]) ∧ OwnZ w' w.heap.size (.slice ao r.1.length c) r.1 ∧ Below w.heap.size w w'
/-- What Block answers. -/
def BkS (r : List (Int × Int) × List Int × Int) (w : World) (e : Ending) (w' : World) : Prop :=
  ∃ ea ec ao c, e = .returned (.tuple #[.agg #[.int .i64 (r.2.1.length : Int), .slice ea r.1.length ec], .slice ao r.2.1.length c, .int .i64 r.2.2]) ∧ OwnE w' w.heap.size (.slice ea r.1.length ec) r.1 ∧ OwnZ w' w.heap.size (.slice ao r.2.1.length c) r.2.1 ∧
    (∀ b, (Value.slice ao r.2.1.length c).ownBlock = some b → (Value.slice ea r.1.length ec).ownBlock ≠ some b) ∧ Below w.heap.size w w'

theorem LiS.mk {l : List Int} {z : Int} {w w' : World} {v : Value} (h : OwnZ w' w.heap.size v l) (hb : Below w.heap.size w w') : LiS (l, z) w (.returned (.tuple #[v, .int .i64 z])) w' := by
  obtain ⟨a, c, e, _⟩ := h.form
  subst e
  exact ⟨a, c, rfl, h, hb⟩

theorem of9_is {n : Int} {es : List (Int × Int)} {w w' : World} {g : Nat} {m : Nat → Nat} (hv : Si.valid n es = true) (hm : ∀ e, e < es.length → m e = Bl.m9 es e) (hg : w.heap.size ≤ g) (hi : IntsBlk w' g (Bl.nums es.length (Bl.numB m))) (hb : Below w.heap.size w w') : OfS (Bl.of9 n es) w (.returned (.tuple #[.slice (some ⟨g, 0, none⟩) es.length es.length, .int .i64 (Bl.cntB m es.length : Int), .int .i64 0])) w' := by
  obtain ⟨h1, h2⟩ := Bl.no9_of hm
  rw [Bl.nums_congr h1] at hi
  have hlen := Bl.nums_length es.length (Bl.no9 es)
  have hfew := (Si.valid_iff.1 hv).few
  have ho := hi.own9 hg (by unfold maxLen; rw [hlen]; omega)
  rw [Bl.of9_t hv, h2]
  refine ⟨some ⟨g, 0, none⟩, es.length, ?_, ?_, hb⟩
  · rw [hlen]
  · rw [hlen] at ho ⊢
    exact ho

section
variable (n : Int) (ao : Option Addr) (cap : Nat) (es : List (Int × Int)) (w : World) (he : EdgesAt w ao es) (hl : es.length ≤ 4611686018427387904)
include he hl

theorem pof_is : Calls Try.prog 9 #[graphVal n ao es.length cap] w (OfS (Bl.of9 n es) w) := by
  cases hv : Si.valid n es with
  | true =>
    have hval := Si.valid_iff.1 hv
    obtain ⟨n, rfl⟩ : ∃ m : Nat, n = (m : Int) := ⟨n.toNat, by have := hval.lo; omega⟩
    refine (pof9_yes n ao cap es w he hval).mono ?_
    rintro e w' ⟨s, go, hvf, rfl, h2, h3, h4⟩
    exact of9_is hv (fun e he => Bl.m9_mB hval hvf he) h3 h2 h4
  | false =>
    refine (pof9_no n ao cap es w he hl hv).mono ?_
    rintro e w' ⟨rfl, hb⟩
    rw [Bl.of9_f hv]
    exact ⟨none, 0, rfl, .nil _ _, hb⟩
theorem dof_is : Calls Try.prog 11 #[graphVal n ao es.length cap] w (OfS (Bl.of9 n es) w) := by
  refine (of9_any n ao cap es w he hl).mono ?_
  rintro e w' ⟨⟨m, g, hv, rfl, h2, h3, h4⟩ | ⟨hv, rfl⟩, hb⟩
  · have hval := Si.valid_iff.1 hv
    obtain ⟨n, rfl⟩ : ∃ m : Nat, n = (m : Int) := ⟨n.toNat, by have := hval.lo; omega⟩
    exact of9_is hv (fun e he => Bl.m9_cl hval h4 he) h2 h3 hb
  · rw [Bl.of9_f hv]
    exact ⟨none, 0, rfl, .nil _ _, hb⟩
theorem pcuts_is : Calls Try.prog 13 #[graphVal n ao es.length cap] w (LiS (Bl.cu9 n es) w) := by
  cases hv : Si.valid n es with
  | true =>
    have hval := Si.valid_iff.1 hv
    obtain ⟨n, rfl⟩ : ∃ m : Nat, n = (m : Int) := ⟨n.toNat, by have := hval.lo; omega⟩
    refine (pcuts9_yes n ao cap es w he hval).mono ?_
    rintro e w' ⟨s, v, hvf, rfl, h2, h4⟩
    obtain ⟨k1, k2⟩ := Bl.no9_of (fun e he => Bl.m9_mB hval hvf (e := e) he)
    rw [Bl.cu9_t hv]
    dsimp only at h2
    rw [k2, Bl.cutsTo_congr k1] at h2
    exact .mk h2 h4
  | false =>
    refine (pcuts9_no n ao cap es w he hl hv).mono ?_
    rintro e w' ⟨rfl, hb⟩
    rw [Bl.cu9_f hv]
    exact .mk (.nil _ _) hb
theorem dcuts_is : Calls Try.prog 14 #[graphVal n ao es.length cap] w (LiS (Bl.cu9 n es) w) := by
  refine (cuts_any n ao cap es w he hl).mono ?_
  rintro e w' ⟨⟨m, v, hv, rfl, h2, h3⟩ | ⟨hv, rfl⟩, hb⟩
  · have hval := Si.valid_iff.1 hv
    obtain ⟨n, rfl⟩ : ∃ m : Nat, n = (m : Int) := ⟨n.toNat, by have := hval.lo; omega⟩
    obtain ⟨k1, k2⟩ := Bl.no9_of (fun e he => Bl.m9_cl hval h2 (e := e) he)
    rw [Bl.cu9_t hv]
    rw [k2, Bl.cutsTo_congr k1] at h3
    exact .mk h3 hb
  · rw [Bl.cu9_f hv]
    exact .mk (.nil _ _) hb
theorem pbridges_is : Calls Try.prog 15 #[graphVal n ao es.length cap] w (LiS (Bl.bs9 n es) w) := by
  cases hv : Si.valid n es with
  | true =>
    have hval := Si.valid_iff.1 hv
    obtain ⟨n, rfl⟩ : ∃ m : Nat, n = (m : Int) := ⟨n.toNat, by have := hval.lo; omega⟩
    refine (pbridges9_yes n ao cap es w he hval).mono ?_
    rintro e w' ⟨s, v, hvf, rfl, h2, h4⟩
    obtain ⟨k1, k2⟩ := Bl.no9_of (fun e he => Bl.m9_mB hval hvf (e := e) he)
    rw [Bl.bs9_t hv]
    dsimp only at h2
    rw [Bl.brTo_congr k1 _ (Nat.le_refl _)] at h2
    exact .mk h2 h4
  | false =>
    refine (pbridges9_no n ao cap es w he hl hv).mono ?_
    rintro e w' ⟨rfl, hb⟩
    rw [Bl.bs9_f hv]
    exact .mk (.nil _ _) hb
theorem dbridges_is : Calls Try.prog 16 #[graphVal n ao es.length cap] w (LiS (Bl.bs9 n es) w) := by
  refine (bridges9_any n ao cap es w he hl).mono ?_
  rintro e w' ⟨⟨m, v, hv, rfl, h2, h3⟩ | ⟨hv, rfl⟩, hb⟩
  · have hval := Si.valid_iff.1 hv
    obtain ⟨n, rfl⟩ : ∃ m : Nat, n = (m : Int) := ⟨n.toNat, by have := hval.lo; omega⟩
    obtain ⟨k1, k2⟩ := Bl.no9_of (fun e he => Bl.m9_cl hval h2 (e := e) he)
    rw [Bl.bs9_t hv]
    rw [Bl.brTo_congr k1 _ (Nat.le_refl _)] at h3
    exact .mk h3 hb
  · rw [Bl.bs9_f hv]
    exact .mk (.nil _ _) hb
theorem pblock_is (k : Int) : Calls Try.prog 17 #[graphVal n ao es.length cap, .int .i64 k] w (BkS (Bl.bl9 n es k) w) := by
  cases hv : Si.valid n es with
  | true =>
    have hval := Si.valid_iff.1 hv
    have hfew := hval.few
    obtain ⟨n, rfl⟩ : ∃ m : Nat, n = (m : Int) := ⟨n.toNat, by have := hval.lo; omega⟩
    refine (pblock9_yes n k ao cap es w he hval).mono ?_
    rintro e w' (⟨kk, rfl, s, g, v, hvf, h0, rfl, h2, h3, h5, h6, h4⟩ | ⟨s, hvf, h1, rfl, hb⟩)
    · obtain ⟨k1, k2⟩ := Bl.no9_of (fun e he => Bl.m9_mB hval hvf (e := e) he)
      rw [k2] at h0
      rw [Bl.bl9_t hv h0]
      unfold Bl.vb9
      rw [Int.toNat_natCast]
      rw [Bl.vsTo_congr k1, Bl.bkTo_congr k1] at h2 ⊢
      rw [Bl.vsTo_congr k1] at h3
      obtain ⟨a, c, e1, _⟩ := h3.form
      subst e1
      have hbl := Bl.bkTo_length (es := es) (f := Bl.no9 es) (Bl.vsTo es (Bl.no9 es) (kk : Int) n) kk es.length
      refine ⟨some ⟨g, 0, none⟩, _, a, c, rfl, h2.own h5 (by unfold maxLen; omega), h3, fun b hb e => ?_, h4⟩
      have := h6 b hb
      have e2 : g = b := by simpa [Value.ownBlock] using e
      omega
    · obtain ⟨k1, k2⟩ := Bl.no9_of (fun e he => Bl.m9_mB hval hvf (e := e) he)
      rw [k2] at h1
      rw [Bl.bl9_o hv h1]
      exact ⟨none, 0, none, 0, rfl, .nil _ _, .nil _ _, (fun b hb => by cases hb), hb⟩
  | false =>
    refine (pblock9_no n k ao cap es w he hl hv).mono ?_
    rintro e w' ⟨rfl, hb⟩
    rw [Bl.bl9_f hv]
    exact ⟨none, 0, none, 0, rfl, .nil _ _, .nil _ _, (fun b hb => by cases hb), hb⟩
/-- What the document's Block answers. -/
def DkS (r : List (Int × Int) × List Int × Int) (w : World) (e : Ending) (w' : World) : Prop :=
  ∃ ea ec ao c, e = .returned (.tuple #[.agg #[.int .i64 (r.2.1.length : Int), .slice ea r.1.length ec], .slice ao r.2.1.length c, .int .i64 r.2.2]) ∧ OwnE w' w.heap.size (.slice ea r.1.length ec) r.1 ∧ OwnZ w' w.heap.size (.slice ao r.2.1.length c) r.2.1 ∧ Below w.heap.size w w'
theorem dblock_is (k : Int) : Calls Try.prog 18 #[graphVal n ao es.length cap, .int .i64 k] w (DkS (Bl.bl9 n es k) w) := by
  refine (rblock_any n k ao cap es w he hl).mono ?_
  rintro e w' ⟨⟨hv, rfl⟩ | ⟨m, hv, h2, ⟨h1, rfl⟩ | ⟨kk, ev, nv, rfl, h0, rfl, h3, h4⟩⟩, hb⟩
  · rw [Bl.bl9_f hv]
    exact ⟨none, 0, none, 0, rfl, .nil _ _, .nil _ _, hb⟩
  all_goals
    have hval := Si.valid_iff.1 hv
    obtain ⟨n, rfl⟩ : ∃ m : Nat, n = (m : Int) := ⟨n.toNat, by have := hval.lo; omega⟩
    obtain ⟨k1, k2⟩ := Bl.no9_of (fun e he => Bl.m9_cl hval h2 (e := e) he)
  · rw [k2] at h1
    rw [Bl.bl9_o hv h1]
    exact ⟨none, 0, none, 0, rfl, .nil _ _, .nil _ _, hb⟩
  · rw [k2] at h0
    rw [Bl.bl9_t hv h0]
    unfold Bl.vb9
    rw [Bl.vsTo_congr k1, Bl.bkTo_congr k1] at h3
    rw [Bl.vsTo_congr k1] at h4 ⊢
    obtain ⟨a, c, e1, _⟩ := h4.form
    obtain ⟨ea, ec, e2, _⟩ := h3.form
    subst e1 e2
    exact ⟨_, _, a, c, rfl, h3, h4, hb⟩
end
end Go.Proofs.Ytalfpbalekbinaa

/-
  The document's own Equal and Copy of graphs.
-/
namespace Go.Proofs.Ytalfpbalekbinaa
open Go.RowKit Go.Sort

namespace Si
def equal (n m : Int) (es fs : List (Int × Int)) : Bool := decide (n = m ∧ es = fs)
theorem equal_yes {n m : Int} {es fs : List (Int × Int)} (h : n = m) (h' : es = fs) : equal n m es fs = true := by simp [equal, h, h']
theorem equal_no {n m : Int} {es fs : List (Int × Int)} (h : n ≠ m ∨ es ≠ fs) : equal n m es fs = false := by
  unfold equal
  rcases h with h | h <;> simp [h]
end Si

set_option maxRecDepth 100000 in
set_option maxHeartbeats 8000000 in
theorem equal_any (n m : Int) (ao bo : Option Addr) (ca cb : Nat) (es fs : List (Int × Int)) (w : World) (he : EdgesAt w ao es) (hf : EdgesAt w bo fs) (hl : es.length ≤ 4611686018427387904) :
    Calls Try.prog 19 #[graphVal n ao es.length ca, graphVal m bo fs.length cb] w fun e w' => e = .returned (.bool (Si.equal n m es fs)) ∧ Below w.heap.size w w' := by
  have HE := Nu.hid he
  have HF := Nu.hid hf
  clear he hf
  unfold graphVal
  have hbw0 : Below w.heap.size w ((w.alloc (.cells #[.int .i64 n, .slice ao es.length ca] 24)).alloc (.cells #[.int .i64 m, .slice bo fs.length cb] 24)) := ((Below.refl _ _).alloc (Nat.le_refl _) _).alloc (by simp) _
  by_cases hnm : n = m
  · by_cases hll : es.length = fs.length
    · have j0 : (n != m) = false := by simp [hnm]
      have j1 : ((es.length : Int) != (fs.length : Int)) = false := by simp [hll]
      have HLL := Nu.hid hll
      have HNM := Nu.hid hnm
      have HBW0 := Nu.hid hbw0
      clear hll hnm hbw0
      go_enter Try.func19, Try.ntmps19
      go_wp2
      go_loopw [5] (fun c wr => ∃ k : Nat, k ≤ es.length ∧ c = .int .i64 k ∧ (∀ j, j < k → es[j]? = fs[j]?) ∧ wr.heap[w.heap.size]? = some (.cells #[.int .i64 n, .slice ao es.length ca] 24 (0, 0)) ∧ wr.heap[w.heap.size + 1]? = some (.cells #[.int .i64 m, .slice bo fs.length cb] 24 (0, 0)) ∧ Below w.heap.size w wr) (fun c _ => es.length - (intOf c).toNat)
      case atStart =>
        refine ⟨0, Nat.zero_le _, rfl, fun j h => by omega, ?_, ?_, HBW0.out⟩
        · rw [Below.heap_alloc _ _ _ (by simp)]
          exact heap_alloc_new w _
        · have := heap_alloc_new (w.alloc (.cells #[.int .i64 n, .slice ao es.length ca] 24)) (.cells #[.int .i64 m, .slice bo fs.length cb] 24)
          simpa using this
      case round =>
        obtain ⟨k, hk, rfl, hsame, hg1, hg2, hb⟩ := hrel
        obtain ⟨-, a1, -⟩ := pair_cells hg1
        obtain ⟨-, b1, -⟩ := pair_cells hg2
        have hs2 := lt_of_block hg2
        have HG1 := Nu.hid hg1
        have HG2 := Nu.hid hg2
        have HSAME := Nu.hid hsame
        have HB := Nu.hid hb
        clear hg1 hg2 hsame
        by_cases hlt : k < es.length
        · have hlti : (k : Int) < (es.length : Int) := by omega
          have hk0 : (0 : Int) ≤ (k : Int) := by omega
          have hlf : (k : Int) < (fs.length : Int) := by have := HLL.out; omega
          obtain ⟨p, hp⟩ : ∃ p, es[k]? = some p := ⟨_, List.getElem?_eq_getElem hlt⟩
          obtain ⟨q, hq⟩ : ∃ q, fs[k]? = some q := ⟨_, List.getElem?_eq_getElem (by omega)⟩
          obtain ⟨b, o, rfl, c0, c1⟩ := (HE.out.later hb) k p hp
          obtain ⟨b', o', rfl, d0, d1⟩ := (HF.out.later hb) k q hq
          have hbl : b < wr.heap.size := block_lt_of_cell c0
          have hbl' : b' < wr.heap.size := block_lt_of_cell d0
          have HP := Nu.hid hp
          have HQ := Nu.hid hq
          clear hp hq hb
          by_cases e1 : p.1 = q.1
          · have t1 : (p.1 != q.1) = false := by simp [e1]
            by_cases e2 : p.2 = q.2
            · have t2 : (p.2 != q.2) = false := by simp [e2]
              have HPQ : Hid (p = q) := Prod.ext e1 e2
              clear e1 e2
              go_wp2_with fail
              go_quiet (fail)
              go_wp2
              go_roundw
              case rel =>
                refine ⟨k + 1, by omega, by go_num, fun j hj => ?_, HG1.out, HG2.out, below_drewN HB.out _⟩
                by_cases hjk : j = k
                · subst hjk; rw [HP.out, HQ.out, HPQ.out]
                · exact HSAME.out j (by omega)
              case measure => simp [intOf]; omega
            · have t2 : (p.2 != q.2) = true := by simp [e2]
              have hv : Si.equal n m es fs = false := Si.equal_no (.inr fun h => by rw [h, HQ.out] at HP; cases HP.out; exact e2 rfl)
              have HV := Nu.hid hv
              clear e1 hv
              go_wp2_with fail
              go_quiet (fail)
              go_wp2
              go_ret
              exact ⟨by rw [HV.out]; rfl, below_drewN HB.out _⟩
          · have t1 : (p.1 != q.1) = true := by simp [e1]
            have hv : Si.equal n m es fs = false := Si.equal_no (.inr fun h => by rw [h, HQ.out] at HP; cases HP.out; exact e1 rfl)
            have HV := Nu.hid hv
            clear hv
            go_wp2_with fail
            go_quiet (fail)
            go_wp2
            go_ret
            exact ⟨by rw [HV.out]; rfl, below_drewN HB.out _⟩
        · have hd : ¬ ((k : Int) < (es.length : Int)) := by omega
          have hv : Si.equal n m es fs = true := Si.equal_yes HNM.out (List.ext_getElem? fun j => by
            by_cases hj : j < k
            · exact HSAME.out j hj
            · rw [List.getElem?_eq_none (by omega), List.getElem?_eq_none (by have := HLL.out; omega)])
          have HV := Nu.hid hv
          clear hv hb
          go_wp2
          go_ret
          exact ⟨by rw [HV.out]; rfl, HB.out⟩
    · have j0 : (n != m) = false := by simp [hnm]
      have j1 : ((es.length : Int) != (fs.length : Int)) = true := by simp; omega
      have hv : Si.equal n m es fs = false := Si.equal_no (.inr fun h => hll (by rw [h]))
      rw [hv]
      clear hll hnm hv
      go_enter Try.func19, Try.ntmps19
      go_wp2
      go_ret
      exact ⟨rfl, hbw0⟩
  · have j0 : (n != m) = true := by simp [hnm]
    have hv : Si.equal n m es fs = false := Si.equal_no (.inl hnm)
    rw [hv]
    clear hnm hv
    go_enter Try.func19, Try.ntmps19
    go_wp2
    go_ret
    exact ⟨rfl, hbw0⟩

set_option maxRecDepth 100000 in
set_option maxHeartbeats 4000000 in
theorem rcopy_any (n : Int) (ao : Option Addr) (ca : Nat) (es : List (Int × Int)) (w : World) (he : EdgesAt w ao es) (hl : es.length * 16 ≤ 140737488355328) :
    Calls Try.prog 10 #[graphVal n ao es.length ca] w fun e w' => ∃ v, e = .returned (.agg #[.int .i64 n, v]) ∧ OwnE w' w.heap.size v es ∧ Below w.heap.size w w' := by
  obtain ⟨i0, hi, hz0, hz1, hz2⟩ := info_parts Try.infoEdge
  have HE := Nu.hid he
  clear he
  unfold graphVal
  go_enter Try.func10, Try.ntmps10
  go_wp2
  go_loopw [3, 4] (fun v c wr => ∃ (k : Nat) (L : List (Int × Int)), k ≤ es.length ∧ c = .int .i64 k ∧ L = es.take k ∧ OwnE wr (w.heap.size + 2) v L ∧ wr.heap[w.heap.size]? = some (.cells #[.int .i64 n, .slice ao es.length ca] 24 (0, 0)) ∧ wr.heap[w.heap.size + 1]? = some (.cells #[.int .i64 0, .slice none 0 0] 24 (0, 0)) ∧ Below w.heap.size w wr) (fun _ c _ => es.length - (intOf c).toNat)
  case atStart =>
    refine ⟨0, [], Nat.zero_le _, rfl, by simp, OwnE.nil _ _, ?_, ?_, ((Below.refl _ _).alloc (Nat.le_refl _) _).alloc (by simp) _⟩
    · rw [Below.heap_alloc _ _ _ (by simp)]
      exact heap_alloc_new w _
    · have := heap_alloc_new (w.alloc (.cells #[.int .i64 n, .slice ao es.length ca] 24)) (.cells #[.int .i64 0, .slice none 0 0] 24)
      simpa using this
  case round =>
    obtain ⟨k, L, hk, rfl, hL, hrow, hg1, hg2, hb⟩ := hrel
    obtain ⟨a0, a1, -⟩ := pair_cells hg1
    obtain ⟨b0, b1, bf⟩ := pair_cells hg2
    have hs1 := lt_of_block hg1
    have hs2 := lt_of_block hg2
    have hLl : L.length = k := by rw [hL]; simp; omega
    have HG1 := Nu.hid hg1
    have HG2 := Nu.hid hg2
    have HL := Nu.hid hL
    have HROW := Nu.hid hrow
    have HB := Nu.hid hb
    have HLL := Nu.hid hLl
    have hs0 : w.heap.size ≤ wr.heap.size := hb.size
    clear hg1 hg2 hL hLl
    by_cases hlt : k < es.length
    · have hlti : (k : Int) < (es.length : Int) := by omega
      have hk0 : (0 : Int) ≤ (k : Int) := by omega
      obtain ⟨p, hp⟩ : ∃ p, es[k]? = some p := ⟨_, List.getElem?_eq_getElem hlt⟩
      obtain ⟨b, o, rfl, c0, c1⟩ := (HE.out.later hb) k p hp
      have hbl : b < wr.heap.size := block_lt_of_cell c0
      have HSN : Hid (es.take (k + 1) = L ++ [p]) := by
        show es.take (k + 1) = L ++ [p]
        rw [HL.out]
        exact Si.take_snoc hp
      clear hp hb hrow
      go_wp2_with (at_builtin; refine wpList_append_own _ rfl _ _ 22 rfl (w.heap.size + 2) 49 i0 (.agg #[.int .i64 0, .int .i64 0]) 2 16 Try.underlying22 hi hz0 hz1 hz2 rfl (by decide) _ _ _ rfl (World.ownsRow.alloc HROW.out _) ⟨wr.heap.size, 0, none⟩ 1 1 [.int .i64 p.1, .int .i64 p.2] rfl rfl (new_two_e _ _ rfl _ _ _) (by simp [Value.oneCell']) (by rw [HLL.out]; unfold maxLen; omega) (by rw [HLL.out]; omega) (by simp; omega) ?_; refine Hid.out ?_)
      refine Nu.hid ?_
      intro v' w3 hrow3 hg3 _
      have HROW3 : Hid (OwnE w3 (w.heap.size + 2) v' (L ++ [p])) := by
        unfold OwnE
        rw [flatE_snoc, List.length_append]
        exact hrow3
      have HG13 := Nu.hid ((hg3.block _ (by simp; omega) (fun h => HROW.out.far (by omega) h.symm)).trans ((Below.heap_alloc _ _ _ hs1).trans HG1.out))
      have HG23 := Nu.hid ((hg3.block _ (by simp; omega) (fun h => HROW.out.far (by omega) h.symm)).trans ((Below.heap_alloc _ _ _ hs2).trans HG2.out))
      have HB3 := Nu.hid ((HB.out.alloc hs0 _).grown hg3 (by simp; omega) (fun j hj => by have := (World.ownsRow.lt HROW.out j hj).1; omega))
      clear hrow3 hg3
      go_wp2
      go_roundw
      case rel => exact ⟨k + 1, _, by omega, by go_num, HSN.out.symm, HROW3.out, HG13.out, HG23.out, HB3.out⟩
      case measure => simp [intOf]; omega
    · have hd : ¬ ((k : Int) < (es.length : Int)) := by omega
      have hLe : L = es := by
        rw [HL.out]
        exact List.take_of_length_le (by omega)
      have HLE := Nu.hid hLe
      clear hLe hb hrow
      obtain ⟨ao', cap', rfl, _, _, _, hx⟩ := HROW.out.form
      have HX := Nu.hid hx
      clear hx
      go_wp2
      have hgr := pair_set HG2.out (.int .i64 n) (.slice ao' L.length cap')
      obtain ⟨r0, r1, -⟩ := pair_cells hgr
      refine bodyPost_ret (v := .agg #[.int .i64 n, .slice ao' L.length cap']) (by simp [results, Try.results10, go_sem, r0, r1]) rfl ?_
      refine ⟨_, rfl, ?_, (HB.out.setCell (by simp) _).setCell (by simp) _⟩
      rw [← HLE.out]
      exact HROW.out.set2 (by omega) _ _

end Go.Proofs.Ytalfpbalekbinaa

/-
  What the laws on blocks ask, over and over.
-/
namespace Go.Proofs.Ytalfpbalekbinaa
open Go.RowKit

/-- The graph that came in: its edges, and the block that holds it. -/
structure Gr9 (w : World) (n : Int) (ao : Option Addr) (ca : Nat) (es : List (Int × Int)) (W : World) : Prop where
  at_ : EdgesAt w ao es
  low : Below w.heap.size w W
  box : W.heap[w.heap.size]? = some (.cells #[.int .i64 n, .slice ao es.length ca] 24 (0, 0))

section
variable {w W W' : World} {n : Int} {ao : Option Addr} {ca : Nat} {es : List (Int × Int)}
theorem Gr9.start (h : EdgesAt w ao es) : Gr9 w n ao ca es (w.alloc (.cells #[.int .i64 n, .slice ao es.length ca] 24)) := ⟨h, (Below.refl _ _).alloc (Nat.le_refl _) _, heap_alloc_new w _⟩
theorem Gr9.later (h : Gr9 w n ao ca es W) (hb : Below W.heap.size W W') : Gr9 w n ao ca es W' := ⟨h.at_, h.low.trans (hb.mono h.low.size), (hb.block _ (lt_of_block h.box)).trans h.box⟩
theorem Gr9.edges (h : Gr9 w n ao ca es W) : EdgesAt W ao es := h.at_.later h.low
theorem Gr9.cells (h : Gr9 w n ao ca es W) : W.cell? ⟨w.heap.size, 0, none⟩ = some (.int .i64 n) ∧ W.cell? ⟨w.heap.size, 1, none⟩ = some (.slice ao es.length ca) := by
  obtain ⟨x0, x1, -⟩ := pair_cells h.box
  exact ⟨x0, x1⟩
theorem Gr9.copy (h : Gr9 w n ao ca es W) (hl : es.length * 16 ≤ 140737488355328) : Calls Try.prog 10 #[.agg #[.int .i64 n, .slice ao es.length ca]] W fun e w' => ∃ a c, e = .returned (.agg #[.int .i64 n, .slice a es.length c]) ∧ EdgesAt w' a es ∧ Below W.heap.size W w' := (rcopy_any n ao ca es W h.edges hl).mono (by
  rintro e w' ⟨v, rfl, h1, h2⟩
  obtain ⟨a, c, rfl, _, _, h3, _⟩ := h1.form
  exact ⟨a, c, rfl, h3, h2⟩)
end

theorem OwnZ.at {w : World} {B : Nat} {ao : Option Addr} {k c : Nat} {l : List Int} (h : OwnZ w B (.slice ao k c) l) : IntsAt w ao l := by
  obtain ⟨a, c', e, h1, _⟩ := h.form
  cases e
  exact h1
/-- The same list twice. -/
theorem same_two {ao bo : Option Addr} {ca cb k : Nat} {l : List Int} {w : World} (hk : l.length = k) (h : IntsAt w ao l) (h' : IntsAt w bo l) (hl : k ≤ 4611686018427387904) : Calls Try.prog 12 #[.slice ao k ca, .slice bo k cb] w fun e w' => e = .returned (.bool true) ∧ Below w.heap.size w w' := (sameints_any ao bo ca cb k k l l w hk hk h h' hl).mono (by
  rintro e w' ⟨h1, h2⟩
  exact ⟨by rw [h1]; simp, h2⟩)
theorem equal_two {n : Int} {ao bo : Option Addr} {ca cb : Nat} {es : List (Int × Int)} {w : World} (he : EdgesAt w ao es) (hf : EdgesAt w bo es) (hl : es.length ≤ 4611686018427387904) : Calls Try.prog 19 #[.agg #[.int .i64 n, .slice ao es.length ca], .agg #[.int .i64 n, .slice bo es.length cb]] w fun e w' => e = .returned (.bool true) ∧ Below w.heap.size w w' := (equal_any n n ao bo ca cb es es w he hf hl).mono (by
  rintro e w' ⟨h1, h2⟩
  exact ⟨by rw [h1, Si.equal_yes rfl rfl], h2⟩)
end Go.Proofs.Ytalfpbalekbinaa
