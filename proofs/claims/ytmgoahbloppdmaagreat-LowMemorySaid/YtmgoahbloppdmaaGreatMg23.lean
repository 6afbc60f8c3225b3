import Derived.Test.YtmgoahbloppdmaaGreatMg22
import Derived.Test.YtmgoahbloppdmaaGreatMg06
import Derived.Test.YtmgoahbloppdmaaGreatMg04
import Derived.Deep.QuietTactic
import Derived.BigQuiet
import Derived.Test.YtmgoahbloppdmaaGreatMg07
import Derived.BigRegion
import Derived.Laws.AppendOwnNone
/-
  Half-edges sorted by nesting depth, and parted by where they begin: the lists of Out; pure.
-/
namespace Go.Proofs.YtmgoahbloppdmaaGreat
namespace Lo
open Df

theorem pairwise_unique {α : Type} {R : α → α → Prop} (hirr : ∀ x, ¬ R x x) (hasym : ∀ x y, R x y → ¬ R y x) : ∀ {X Y : List α}, List.Pairwise R X → List.Pairwise R Y → (∀ x, x ∈ X ↔ x ∈ Y) → X = Y
  | [], [], _, _, _ => rfl
  | [], y :: Y, _, _, h => by have := (h y).2 List.mem_cons_self; simp at this
  | x :: X, [], _, _, h => by have := (h x).1 List.mem_cons_self; simp at this
  | x :: X, y :: Y, hX, hY, h => by
    obtain ⟨hx1, hx2⟩ := List.pairwise_cons.1 hX
    obtain ⟨hy1, hy2⟩ := List.pairwise_cons.1 hY
    have e : x = y := by
      rcases List.mem_cons.1 ((h x).1 List.mem_cons_self) with e | h1
      · exact e
      · rcases List.mem_cons.1 ((h y).2 List.mem_cons_self) with e | h2
        · exact e.symm
        · exact absurd (hy1 x h1) (hasym _ _ (hx1 y h2))
    subst e
    congr 1
    refine pairwise_unique hirr hasym hx2 hy2 fun z => ⟨fun hz => ?_, fun hz => ?_⟩
    · rcases List.mem_cons.1 ((h z).1 (List.mem_cons_of_mem _ hz)) with e | h1
      · subst e; exact absurd (hx1 z hz) (hirr z)
      · exact h1
    · rcases List.mem_cons.1 ((h z).2 (List.mem_cons_of_mem _ hz)) with e | h1
      · subst e; exact absurd (hy1 z hz) (hirr z)
      · exact h1

/-- Those of a list that begin at v. -/
def fromV (es : List (Int × Int)) (S : List Int) (v : Nat) : List Int := S.filter fun h => decide (Cs.fr es h.toNat = v)
/-- The first k of S, parted. -/
def gat (n : Nat) (es : List (Int × Int)) (S : List Int) (k : Nat) : List (List Int) := (List.range n).map fun v => fromV es (S.take k) v

theorem gat_len (n : Nat) (es : List (Int × Int)) (S : List Int) (k : Nat) : (gat n es S k).length = n := by simp [gat]
theorem gat_at {n : Nat} {es : List (Int × Int)} {S : List Int} {k v : Nat} (h : v < n) : (gat n es S k)[v]? = some (fromV es (S.take k) v) := by simp [gat, h]
theorem gat_zero (n : Nat) (es : List (Int × Int)) (S : List Int) : gat n es S 0 = List.replicate n [] := by
  refine List.ext_getElem? fun v => ?_
  by_cases hv : v < n
  · rw [gat_at hv, List.getElem?_replicate, if_pos hv]
    rfl
  · rw [List.getElem?_eq_none (by rw [gat_len]; omega), List.getElem?_eq_none (by simp; omega)]
theorem gat_succ {n : Nat} {es : List (Int × Int)} {S : List Int} {k : Nat} {h : Int} (hk : S[k]? = some h) : gat n es S (k + 1) = (gat n es S k).set (Cs.fr es h.toNat) (fromV es (S.take k) (Cs.fr es h.toNat) ++ [h]) := by
  refine List.ext_getElem? fun v => ?_
  have e : S.take (k + 1) = S.take k ++ [h] := by rw [List.take_add_one, hk]; rfl
  by_cases hv : v < n
  · rw [gat_at hv, List.getElem?_set, e]
    unfold fromV
    rw [List.filter_append]
    by_cases hf : Cs.fr es h.toNat = v
    · rw [if_pos hf, if_pos (by rw [gat_len]; omega), List.filter_cons_of_pos (by simpa using hf), List.filter_nil, hf]
    · rw [if_neg hf, gat_at hv, List.filter_cons_of_neg (by simpa using hf), List.filter_nil, List.append_nil]
      rfl
  · rw [List.getElem?_eq_none (by rw [gat_len]; omega), List.getElem?_eq_none (by rw [List.length_set, gat_len]; omega)]
theorem fromV_len (es : List (Int × Int)) (S : List Int) (v : Nat) : (fromV es S v).length ≤ S.length := List.length_filter_le _ _

section
variable {n : Nat} {es : List (Int × Int)} {s : St}

/-- The keys by which they are sorted. -/
noncomputable def nkey (es : List (Int × Int)) (s : St) (h : Int) : Int := nest es s (h.toNat / 2)

theorem ori_at (hVF : VF n es s) {b : Nat} (hb : b < es.length) : s.ori[b]? = some (at_ s.ori b) := by
  have := hVF.lens.2.2.2
  unfold at_
  rw [List.getD_eq_getElem?_getD, List.getElem?_eq_getElem (by omega)]
  rfl
theorem key_at (hVF : VF n es s) {b : Nat} (hb : b < es.length) : (s.ori.map (nkey es s))[b]? = some (nest es s b) := by
  rw [List.getElem?_map, ori_at hVF hb]
  show some (nkey es s (at_ s.ori b)) = _
  unfold nkey
  rw [(ori_half hVF hb).1]

theorem nest_rng (hv : Si.Val n es) (h : VF n es s) {e : Nat} (he : e < es.length) : 0 ≤ nest es s e ∧ nest es s e ≤ 2 * (n : Int) := by
  have := low_rng hv h he
  unfold nest
  split <;> omega

theorem no_fault (hv : Si.Val n es) (h : VF n es s) : Bu.fault (2 * (n : Int)) (s.ori.map (nkey es s)) = 0 := by
  have hn := hv.hi
  refine Bu.fault_none (by omega) ?_
  rw [List.any_eq_false]
  intro x hx
  obtain ⟨b, hb⟩ := List.getElem?_of_mem hx
  have hl := h.lens.2.2.2
  have hbl : b < es.length := by
    have := (List.getElem?_eq_some_iff.1 hb).1
    rw [List.length_map] at this
    omega
  rw [key_at h hbl] at hb
  obtain rfl := Option.some.inj hb
  have := nest_rng hv h hbl
  rw [Bu.bad_no (by omega)]
  decide

theorem sorted_mem (h : VF n es s) {S : List Int} (hS : Bu.Sorted (s.ori.map (nkey es s)) s.ori S) : ∀ x, x ∈ S ↔ ∃ b, b < es.length ∧ x = at_ s.ori b := fun x => by
  have hl := h.lens.2.2.2
  have hkl : (s.ori.map (nkey es s)).length = es.length := by rw [List.length_map]; exact hl
  constructor
  · intro hx
    obtain ⟨k, hk⟩ := List.getElem?_of_mem hx
    have hkl' : k < (s.ori.map (nkey es s)).length := by rw [← hS.len]; exact (List.getElem?_eq_some_iff.1 hk).1
    obtain ⟨i, hi, rfl⟩ := Bu.rk_onto _ hkl'
    rw [hS.put i hi, ori_at h (by omega)] at hk
    exact ⟨i, by omega, (Option.some.inj hk).symm⟩
  · rintro ⟨b, hb, rfl⟩
    have := hS.put b (by omega)
    rw [ori_at h hb] at this
    exact List.mem_of_getElem? this

theorem sorted_rises (h : VF n es s) {S : List Int} (hS : Bu.Sorted (s.ori.map (nkey es s)) s.ori S) : List.Pairwise (Le8 es s) S := by
  have hl := h.lens.2.2.2
  have hkl : (s.ori.map (nkey es s)).length = es.length := by rw [List.length_map]; exact hl
  refine List.pairwise_iff_getElem.2 fun a b ha hb hab => ?_
  obtain ⟨i, hi, rfl⟩ := Bu.rk_onto (s.ori.map (nkey es s)) (k := a) (by rw [← hS.len]; exact ha)
  obtain ⟨j, hj, rfl⟩ := Bu.rk_onto (s.ori.map (nkey es s)) (k := b) (by rw [← hS.len]; exact hb)
  have e1 := hS.put i hi
  have e2 := hS.put j hj
  rw [ori_at h (by omega), List.getElem?_eq_getElem ha] at e1
  rw [ori_at h (by omega), List.getElem?_eq_getElem hb] at e2
  rw [Option.some.inj e1, Option.some.inj e2]
  have hne : i ≠ j := fun e => by subst e; omega
  have hah : Bu.Ahead (s.ori.map (nkey es s)) i j := by
    rcases Bu.ahead_or (s.ori.map (nkey es s)) hne with h1 | h1
    · exact h1
    · have := Bu.rk_ahead hj hi h1
      omega
  have k1 := Bu.at_getD (key_at h (b := i) (by omega))
  have k2 := Bu.at_getD (key_at h (b := j) (by omega))
  have o1 := ori_half h (b := i) (by omega)
  have o2 := ori_half h (b := j) (by omega)
  unfold Bu.Ahead at hah
  rw [k1, k2] at hah
  unfold Le8
  rw [o1.1, o2.1]
  rcases hah with h1 | ⟨h1, h2⟩
  · exact .inl h1
  · exact .inr ⟨h1, by omega⟩

theorem le8_asym {x y : Int} (h : Le8 es s x y) : ¬ Le8 es s y x := by
  unfold Le8 at h ⊢
  omega

/-- So they are Out. -/
theorem gat_out (hv : Si.Val n es) (h : VF n es s) {S : List Int} (hS : Bu.Sorted (s.ori.map (nkey es s)) s.ori S) : gat n es S S.length = outTo n es s es.length := by
  refine List.ext_getElem? fun v => ?_
  by_cases hvn : v < n
  · rw [gat_at hvn, List.take_length]
    have hl : v < (outTo n es s es.length).length := by rw [outTo_len]; exact hvn
    obtain ⟨L, hL⟩ : ∃ L, (outTo n es s es.length)[v]? = some L := ⟨_, List.getElem?_eq_getElem hl⟩
    rw [hL]
    congr 1
    refine pairwise_unique (R := Le8 es s) (fun x => le8_irrefl) (fun x y => le8_asym) ((sorted_rises h hS).filter _) (outTo_rises hv h _ (Nat.le_refl _) L (List.mem_of_getElem? hL)) fun x => ?_
    rw [outTo_mem hv h _ (Nat.le_refl _) v L hL x]
    unfold fromV
    rw [List.mem_filter, sorted_mem h hS, decide_eq_true_iff]
    constructor
    · rintro ⟨⟨b, hb, rfl⟩, hf⟩
      exact ⟨b, hb, hf, rfl⟩
    · rintro ⟨b, hb, hf, rfl⟩
      exact ⟨⟨b, hb, rfl⟩, hf⟩
  · rw [List.getElem?_eq_none (by rw [gat_len]; omega), List.getElem?_eq_none (by rw [outTo_len]; omega)]
end
end Lo
end Go.Proofs.YtmgoahbloppdmaaGreat

/-
  slices.Max of ints.
-/
namespace Go.Proofs.YtmgoahbloppdmaaGreat
open Go.RowKit

/-- m is the greatest of the first k. -/
def Bu.Max (l : List Int) (k : Nat) (m : Int) : Prop := (∃ j, j < k ∧ l[j]? = some m) ∧ ∀ (j : Nat) (z : Int), j < k → l[j]? = some z → z ≤ m

theorem Bu.Max.more {l : List Int} {k : Nat} {m y : Int} (h : Bu.Max l k m) (hy : l[k]? = some y) : Bu.Max l (k + 1) (if y > m then y else m) := by
  obtain ⟨⟨j, hj, e⟩, h2⟩ := h
  by_cases c : y > m
  · rw [if_pos c]
    refine ⟨⟨k, by omega, hy⟩, fun i z hi hz => ?_⟩
    by_cases hk : i = k
    · subst hk; rw [hy] at hz; cases hz; exact Int.le_refl _
    · have := h2 i z (by omega) hz; omega
  · rw [if_neg c]
    refine ⟨⟨j, by omega, e⟩, fun i z hi hz => ?_⟩
    by_cases hk : i = k
    · subst hk; rw [hy] at hz; cases hz; omega
    · exact h2 i z (by omega) hz

set_option maxRecDepth 100000 in
set_option maxHeartbeats 4000000 in
theorem max_any (ao : Option Addr) (ca n : Nat) (l : List Int) (w : World) (hn : l.length = n) (h0 : 0 < n) (hl : n ≤ 17592186043904) (ha : IntsAt w ao l) :
    Calls Tryz.prog 99 #[.slice ao n ca] w fun e w' => ∃ m, e = .returned (.int .i64 m) ∧ Bu.Max l n m ∧ w' = w := by
  obtain ⟨x, hx⟩ : ∃ x, l[0]? = some x := ⟨_, List.getElem?_eq_getElem (by omega)⟩
  obtain ⟨b, o, rfl, c0⟩ := ha 0 x hx
  have HA := Nu.hid ha
  have HN := Nu.hid hn
  have HX := Nu.hid hx
  have i0 : (0 : Int) < (n : Int) := by omega
  have i1 : ¬ ((n : Int) < 1) := by omega
  rw [Nat.add_zero] at c0
  clear ha hn hx
  go_enter Tryz.func99, Tryz.ntmps99
  go_wp2
  go_loopw [3, 4] (fun mv c wr => ∃ (k : Nat) (m : Int), 0 < k ∧ k ≤ n ∧ c = .int .i64 k ∧ mv = .int .i64 m ∧ Bu.Max l k m ∧ wr = w) (fun _ c _ => n - (intOf c).toNat)
  case atStart => exact ⟨1, x, by omega, by omega, rfl, rfl, ⟨⟨0, by omega, HX.out⟩, fun j z hj hz => by
    obtain rfl : j = 0 := by omega
    rw [HX.out] at hz
    cases hz
    exact Int.le_refl _⟩, rfl⟩
  case round =>
    obtain ⟨k, m, hk0, hk, rfl, rfl, hm, rfl⟩ := hrel
    have HM := Nu.hid hm
    clear hm
    by_cases hlt : k < n
    · have hlti : (k : Int) < (n : Int) := by omega
      have hki : (0 : Int) ≤ (k : Int) := by omega
      obtain ⟨y, hy⟩ : ∃ y, l[k]? = some y := ⟨_, List.getElem?_eq_getElem (by have := HN.out; omega)⟩
      obtain ⟨b', o', e', ck⟩ := HA.out k y hy
      cases e'
      have HY := Nu.hid hy
      clear hy
      obtain ⟨q, hq⟩ : ∃ q, q = (if y > m then y else m) := ⟨_, rfl⟩
      have HQ := Nu.hid (HM.out.more HY.out)
      rw [← hq] at HQ
      go_wp2
      rw [← hq]
      go_roundw
      case rel => exact ⟨k + 1, q, by omega, by omega, by go_num, rfl, HQ.out, trivial⟩
      case measure => simp [intOf]; omega
    · have hd : ¬ ((k : Int) < (n : Int)) := by omega
      obtain rfl : k = n := by omega
      go_wp2
      go_ret
      exact ⟨m, rfl, HM.out, rfl⟩

end Go.Proofs.YtmgoahbloppdmaaGreat

/-
  counts: by key, how often it stands there.
-/
namespace Go.Proofs.YtmgoahbloppdmaaGreat
open Go.RowKit

/-- C tells of each key below K how often it stands among the first i. -/
structure Bu.Cnt (ks : List Int) (i K : Nat) (C : List Int) : Prop where
  len : C.length = K
  put : ∀ k, k < K → C[k]? = some ((ks.take i).count (k : Int) : Int)

theorem Bu.Cnt.start (ks : List Int) (K : Nat) : Bu.Cnt ks 0 K (List.replicate K 0) := ⟨by simp, fun k hk => by simp [hk]⟩

theorem Bu.Cnt.step {ks : List Int} {i K k : Nat} {C : List Int} (h : Bu.Cnt ks i K C) (hi : ks[i]? = some (k : Int)) (hk : k < K) : Bu.Cnt ks (i + 1) K (C.set k (((ks.take i).count (k : Int) : Int) + 1)) := by
  refine ⟨by rw [List.length_set]; exact h.len, fun j hj => ?_⟩
  rw [List.getElem?_set, Bu.count_take_succ hi]
  by_cases e : k = j
  · subst e
    rw [if_pos rfl, if_pos (by rw [h.len]; exact hk), if_pos rfl]
    simp
  · rw [if_neg e, if_neg (by omega), h.put j hj]
    simp

def CntPost (m0 : Int) (ks : List Int) (w : World) (e : Ending) (w' : World) : Prop :=
  (ks = [] ∧ e = .returned (.slice none 0 0) ∧ w' = w) ∨
  ∃ (g K : Nat) (C : List Int), 0 < ks.length ∧ e = .returned (.slice (some ⟨g, 0, none⟩) K K) ∧ w.heap.size ≤ g ∧ g < w'.heap.size ∧ IntsIn w' g C ∧ Bu.Cnt ks ks.length K C ∧ (K : Int) ≤ m0 + 1 ∧ (∀ z ∈ ks, z < (K : Int)) ∧ Below w.heap.size w w'

set_option maxRecDepth 100000 in
set_option maxHeartbeats 4000000 in
theorem counts_any (ao : Option Addr) (ca n : Nat) (ks : List Int) (w : World) (hn : ks.length = n) (hl : n ≤ 17592186043904) (ha : IntsAt w ao ks) (m0 : Int) (hm0 : m0 ≤ 4194304) (hin : Bu.In m0 ks) :
    Calls Tryz.prog 78 #[.slice ao n ca] w (CntPost m0 ks w) := by
  by_cases h0 : n = 0
  · subst h0
    go_enter Tryz.func78, Tryz.ntmps78
    go_wp2
    go_ret
    exact .inl ⟨List.length_eq_zero_iff.1 hn, rfl, rfl⟩
  obtain ⟨i0, hi, hz0, hz1, hz2⟩ := info_parts Tryz.infoNum
  have HM := Nu.hid (max_any ao ca n ks w hn (by omega) hl ha)
  have HA := Nu.hid ha
  have HN := Nu.hid hn
  have HIN := Nu.hid hin
  have j0 : ((n : Int) == 0) = false := by simp; omega
  clear ha hn hin
  go_enter Tryz.func78, Tryz.ntmps78
  go_wp2_with (go_at_call 99; refine HM.out.mono ?_; rintro e w1 ⟨m, rfl, hm, hw1⟩; obtain rfl := hw1.symm; have HMX := Nu.hid hm; clear hm; refine Hid.out ?_)
  refine Nu.hid ?_
  have hmb : 0 ≤ m ∧ m ≤ m0 := by
    obtain ⟨⟨j, hj, e⟩, -⟩ := HMX.out
    exact HIN.out m (List.mem_of_getElem? e)
  obtain ⟨M, rfl⟩ : ∃ M : Nat, m = (M : Int) := ⟨m.toNat, by omega⟩
  have HTOP : Hid (∀ z ∈ ks, z < ((M + 1 : Nat) : Int)) := fun z hz => by
    obtain ⟨j, hj, rfl⟩ := List.getElem_of_mem hz
    have := HMX.out.2 j _ (by have := HN.out; omega) (List.getElem?_eq_getElem hj)
    omega
  clear HM
  go_wp2_with (at_make; refine wpList_make_full _ rfl _ _ 25 rfl w.heap.size 3 i0 (.int .i64 0) 1 Tryz.underlying25 hi hz0 hz1 _ _ _ _ (M + 1) rfl rfl rfl rfl (by rw [hz2]; omega) (by unfold maxLen; omega) (Nat.le_refl _) ?_; refine Hid.out ?_)
  refine Nu.hid ?_
  intro w2 hrow hg2
  rw [made_zeros] at hrow
  have hik := (ints_of_row hrow).ins
  have hb2 : Below w.heap.size w w2 := (Below.refl _ _).grown hg2 (Nat.le_refl _) (fun j hj => by cases hj)
  have HI2 := Nu.hid hik
  have HB2 := Nu.hid hb2
  clear hrow hg2 hik hb2
  obtain ⟨K, hK⟩ : ∃ K, M + 1 = K := ⟨_, rfl⟩
  rw [hK] at HI2 HTOP ⊢
  have HK2 : Hid ((K : Int) ≤ m0 + 1) := by show _ ≤ _; omega
  have hK2 : K ≤ 4194305 := by omega
  clear hK hmb
  go_wp2
  go_loopw [15] (fun c wr => ∃ (i : Nat) (C : List Int), i ≤ n ∧ c = .int .i64 i ∧ Bu.Cnt ks i K C ∧ IntsIn wr w.heap.size C ∧ Below w.heap.size w wr) (fun c _ => n - (intOf c).toNat)
  case atStart => exact ⟨0, _, Nat.zero_le _, rfl, Bu.Cnt.start ks K, HI2.out, HB2.out⟩
  case round =>
    obtain ⟨i, C, hin, rfl, hC, hiC, hb⟩ := hrel
    have hsz := hiC.lt
    have HC := Nu.hid hC
    have HIC := Nu.hid hiC
    have HB := Nu.hid hb
    by_cases hlt : i < n
    · have hk0 : (0 : Int) ≤ (i : Int) := by omega
      have hk1 : (i : Int) < (n : Int) := by omega
      obtain ⟨x, hx⟩ : ∃ x, ks[i]? = some x := ⟨_, List.getElem?_eq_getElem (by have := HN.out; omega)⟩
      have hx0 := HIN.out x (List.mem_of_getElem? hx)
      have hx1 := HTOP.out x (List.mem_of_getElem? hx)
      obtain ⟨k, rfl⟩ : ∃ k : Nat, x = (k : Int) := ⟨x.toNat, by omega⟩
      have hkK : k < K := by omega
      obtain ⟨b, o, rfl, c0⟩ := (HA.out.later HB.out) i _ hx
      have hcnt := hC.put k hkK
      have hcl : ((ks.take i).count (k : Int)) ≤ i := Nat.le_trans List.count_le_length (by simp; omega)
      have HSTEP := Nu.hid (hC.step hx hkK)
      obtain ⟨q, hq⟩ : ∃ q, (ks.take i).count (k : Int) = q := ⟨_, rfl⟩
      rw [hq] at hcnt hcl HSTEP
      have HSET := Nu.hid (hiC.set (i := k) (by rw [hC.len]; exact hkK) ((q : Int) + 1))
      have HBN := Nu.hid (hb.setCell (p := ⟨w.heap.size, k, none⟩) (Nat.le_refl _) (.int .i64 ((q : Int) + 1)))
      have c1 := hiC.cell hcnt
      have f1 := hiC.free k
      have k0 : (0 : Int) ≤ (k : Int) := by omega
      have k1 : (k : Int) < (K : Int) := by omega
      clear hC hiC hb hx hcnt hq
      go_wp2
      go_roundw
      case rel => exact ⟨i + 1, _, by omega, by go_num, HSTEP.out, HSET.out, HBN.out⟩
      case measure => simp [intOf]; omega
    · have hd : ¬ ((i : Int) < (n : Int)) := by omega
      obtain rfl : i = n := by omega
      clear hC hiC hb
      go_wp2
      go_ret
      exact .inr ⟨w.heap.size, K, C, by have := HN.out; omega, rfl, Nat.le_refl _, hsz, HIC.out, by rw [HN.out]; exact HC.out, HK2.out, HTOP.out, HB.out⟩

/-- The same, however few they are. -/
theorem counts_lst (ao : Option Addr) (ca n : Nat) (ks : List Int) (w : World) (hn : ks.length = n) (hl : n ≤ 17592186043904) (ha : IntsAt w ao ks) (m0 : Int) (h0 : 0 ≤ m0) (hm0 : m0 ≤ 4194304) (hin : Bu.In m0 ks) :
    Calls Tryz.prog 78 #[.slice ao n ca] w fun e w' => ∃ (co : Option Addr) (K : Nat) (C : List Int), e = .returned (.slice co K K) ∧ IntsAt w' co C ∧ Bu.Cnt ks ks.length K C ∧ (K : Int) ≤ m0 + 1 ∧ (∀ x, co = some x → w.heap.size ≤ x.block ∧ x.block < w'.heap.size) ∧ Below w.heap.size w w' :=
  (counts_any ao ca n ks w hn hl ha m0 hm0 hin).mono (by
    rintro e w' (⟨rfl, rfl, rfl⟩ | ⟨g, K, C, -, rfl, h1, h2, h3, h4, h5, -, h6⟩)
    · exact ⟨none, 0, [], rfl, IntsAt.nil _ _, ⟨rfl, fun k hk => by omega⟩, by omega, (fun x hx => nomatch hx), Below.refl _ _⟩
    · exact ⟨_, K, C, rfl, fun j x hj => ⟨g, 0, rfl, by rw [Nat.zero_add]; exact h3.cell hj⟩, h4, h5, (fun x hx => by cases hx; exact ⟨h1, h2⟩), h6⟩)

end Go.Proofs.YtmgoahbloppdmaaGreat

/-
  ranks: by place, where it comes to stand.
-/
namespace Go.Proofs.YtmgoahbloppdmaaGreat
open Go.RowKit

/-- F tells of each key below K how many keys are smaller, and how many of the first i are equal. -/
structure Bu.Free (ks : List Int) (i K : Nat) (F : List Int) : Prop where
  len : F.length = K
  put : ∀ k, k < K → F[k]? = some ((Bu.less ks (k : Int) + (ks.take i).count (k : Int) : Nat) : Int)

theorem Bu.Free.step {ks : List Int} {i K k : Nat} {F : List Int} (h : Bu.Free ks i K F) (hi : ks[i]? = some (k : Int)) (hk : k < K) : Bu.Free ks (i + 1) K (F.set k ((Bu.rk ks i : Int) + 1)) := by
  refine ⟨by rw [List.length_set]; exact h.len, fun j hj => ?_⟩
  rw [List.getElem?_set, Bu.count_take_succ hi, Bu.rk_eq hi]
  by_cases e : k = j
  · subst e
    rw [if_pos rfl, if_pos (by rw [h.len]; exact hk), if_pos rfl]
    congr 1
  · rw [if_neg e, if_neg (by omega), h.put j hj]
    congr 1

/-- The first k of the counts have been turned to how many keys are smaller. -/
structure Bu.Half (ks : List Int) (k K : Nat) (F : List Int) : Prop where
  len : F.length = K
  lo : ∀ j, j < k → F[j]? = some (Bu.less ks (j : Int) : Int)
  hi : ∀ j, k ≤ j → j < K → F[j]? = some (ks.count (j : Int) : Int)

theorem Bu.Half.step {ks : List Int} {k K : Nat} {F : List Int} (h : Bu.Half ks k K F) (hk : k < K) : Bu.Half ks (k + 1) K (F.set k (Bu.less ks (k : Int) : Int)) := by
  refine ⟨by rw [List.length_set]; exact h.len, fun j hj => ?_, fun j hj hjK => ?_⟩
  · rw [List.getElem?_set]
    by_cases e : k = j
    · subst e; rw [if_pos rfl, if_pos (by rw [h.len]; exact hk)]
    · rw [if_neg e, h.lo j (by omega)]
  · rw [List.getElem?_set, if_neg (by omega), h.hi j (by omega) hjK]

def RkPost (ks : List Int) (w : World) (e : Ending) (w' : World) : Prop :=
  ∃ g : Nat, e = .returned (.slice (some ⟨g, 0, none⟩) ks.length ks.length) ∧ w.heap.size ≤ g ∧ IntsBlk w' g (Bu.ranks ks) ∧ Below w.heap.size w w'

theorem IntsBlk.other {w : World} {g : Nat} {l : List Int} (h : IntsBlk w g l) {b i : Nat} (hb : g ≠ b) (x : Value) : IntsBlk (w.setCell ⟨b, i, none⟩ x) g l := (heap_setCell_other w ⟨b, i, none⟩ g x hb).trans h

theorem take_set_succ {α : Type} {l R : List α} {i : Nat} {x : α} (hl : R.length = l.length) (h : ∀ j, j < i → R[j]? = l[j]?) (hx : l[i]? = some x) : ∀ j, j < i + 1 → (R.set i x)[j]? = l[j]? := fun j hj => by
  have hil := (List.getElem?_eq_some_iff.1 hx).1
  rw [List.getElem?_set]
  by_cases e : i = j
  · subst e; rw [if_pos rfl, if_pos (by omega), hx]
  · rw [if_neg e, h j (by omega)]

set_option maxRecDepth 100000 in
set_option maxHeartbeats 8000000 in
theorem ranks_any (ao : Option Addr) (ca n : Nat) (ks : List Int) (w : World) (hn : ks.length = n) (hl : n ≤ 17592186043904) (ha : IntsAt w ao ks) (hin : Bu.In 4194304 ks) :
    Calls Tryz.prog 63 #[.slice ao n ca] w (RkPost ks w) := by
  obtain ⟨i0, hi, hz0, hz1, hz2⟩ := info_parts Tryz.infoNum
  have HM := Nu.hid (counts_any ao ca n ks w hn hl ha 4194304 (by decide) hin)
  have HA := Nu.hid ha
  have HN := Nu.hid hn
  have HIN := Nu.hid hin
  clear ha hn hin
  by_cases h0 : n = 0
  · subst h0
    have HM0 : Hid (Calls Tryz.prog 78 #[.slice ao 0 ca] w fun e w' => e = .returned (.slice none 0 0) ∧ w' = w) := HM.out.mono (by
      rintro e w1 (⟨-, h1, h2⟩ | ⟨g, K, C, h1, -⟩)
      · exact ⟨h1, h2⟩
      · have := HN.out; omega)
    clear HM
    go_enter Tryz.func63, Tryz.ntmps63
    go_wp2_with (go_at_call 78; refine HM0.out.mono ?_; rintro e w1 ⟨rfl, hw1⟩; obtain rfl := hw1.symm; refine Hid.out ?_)
    refine Nu.hid ?_
    go_wp2
    go_loopw [4, 14] (fun a c wr => c = .int .i64 0 ∧ wr = w) (fun _ c _ => 0)
    case atStart => exact ⟨rfl, rfl⟩
    case round =>
      obtain ⟨rfl, rfl⟩ := hrel
      go_wp2_with (at_make; refine wpList_make_full _ rfl _ _ 25 rfl wr.heap.size 3 i0 (.int .i64 0) 1 Tryz.underlying25 hi hz0 hz1 _ _ _ _ 0 rfl rfl rfl rfl (by rw [hz2]; omega) (by unfold maxLen; omega) (Nat.le_refl _) ?_; refine Hid.out ?_)
      refine Nu.hid ?_
      intro w2 hrow hg2
      rw [made_zeros] at hrow
      have HI2 := Nu.hid (ints_of_row hrow)
      have HB2 : Hid (Below wr.heap.size wr w2) := (Below.refl _ _).grown hg2 (Nat.le_refl _) (fun j hj => by cases hj)
      clear hrow hg2
      go_wp2
      go_loopw [32] (fun c wx => c = .int .i64 0 ∧ wx = w2) (fun c _ => 0)
      case atStart => exact ⟨rfl, rfl⟩
      case round =>
        obtain ⟨rfl, rfl⟩ := hrel
        go_wp2
        go_ret
        refine ⟨_, by rw [HN.out]; rfl, Nat.le_refl _, ?_, HB2.out⟩
        have : Bu.ranks ks = [] := List.length_eq_zero_iff.1 (by rw [Bu.ranks_length, HN.out])
        rw [this]
        exact HI2.out
  · have HM0 : Hid (Calls Tryz.prog 78 #[.slice ao n ca] w fun e w' => ∃ (g K : Nat) (C : List Int), e = .returned (.slice (some ⟨g, 0, none⟩) K K) ∧ w.heap.size ≤ g ∧ g < w'.heap.size ∧ IntsIn w' g C ∧ Bu.Cnt ks ks.length K C ∧ (K : Int) ≤ 4194304 + 1 ∧ (∀ z ∈ ks, z < (K : Int)) ∧ Below w.heap.size w w') := HM.out.mono (by
      rintro e w1 (⟨h1, -⟩ | ⟨g, K, C, -, h⟩)
      · exact absurd (by rw [← HN.out, h1]; rfl) h0
      · exact ⟨g, K, C, h⟩)
    clear HM
    go_enter Tryz.func63, Tryz.ntmps63
    go_wp2_with (go_at_call 78; refine HM0.out.mono ?_; rintro e w1 ⟨g, K, C, rfl, hg, hgl, hiC, hC, hK, htop, hb1⟩; refine Hid.out ?_)
    refine Nu.hid ?_
    have HTOP := Nu.hid htop
    have HB1 := Nu.hid hb1
    have H0 : Hid (Bu.Half ks 0 K C) := ⟨hC.len, fun j hj => by omega, fun j _ hj => by have := hC.put j hj; rw [List.take_length] at this; exact this⟩
    have HIC1 := Nu.hid hiC
    have HZ : Hid (Bu.less ks 0 = 0) := Bu.less_zero HIN.out
    clear htop hb1 hC hiC HM0
    go_wp2
    go_loopw [4, 14] (fun a c wr => ∃ (k : Nat) (F : List Int), k ≤ K ∧ c = .int .i64 k ∧ a = .int .i64 (Bu.less ks (k : Int) : Int) ∧ Bu.Half ks k K F ∧ IntsIn wr g F ∧ Below w.heap.size w wr) (fun _ c _ => K - (intOf c).toNat)
    case atStart => exact ⟨0, C, Nat.zero_le _, rfl, by rw [show ((0 : Nat) : Int) = 0 by rfl, HZ.out]; rfl, H0.out, HIC1.out, HB1.out⟩
    case round =>
      obtain ⟨k, F, hkK, rfl, rfl, hF, hiF, hb⟩ := hrel
      have hsz := hiF.lt
      have HF := Nu.hid hF
      have HIF := Nu.hid hiF
      have HB := Nu.hid hb
      have hll := Bu.less_le ks (k : Int)
      rw [HN.out] at hll
      by_cases hlt : k < K
      · have hk0 : (0 : Int) ≤ (k : Int) := by omega
        have hk1 : (k : Int) < (K : Int) := by omega
        have hcnt := hF.hi k (Nat.le_refl _) hlt
        have hcl : ks.count (k : Int) ≤ n := by rw [← HN.out]; exact List.count_le_length
        have HSTEP := Nu.hid (hF.step hlt)
        have hls := Bu.less_succ ks (k : Int)
        obtain ⟨q, hq⟩ : ∃ q, ks.count (k : Int) = q := ⟨_, rfl⟩
        obtain ⟨r, hr⟩ : ∃ r, Bu.less ks (k : Int) = r := ⟨_, rfl⟩
        rw [hq] at hcnt hcl hls
        rw [hr] at hll hls HSTEP ⊢
        have HLS : Hid (Bu.less ks ((k + 1 : Nat) : Int) = r + q) := by
          have e : ((k + 1 : Nat) : Int) = (k : Int) + 1 := by omega
          show _ = _
          rw [e]
          exact hls
        have HSET := Nu.hid (hiF.set (i := k) (by rw [hF.len]; exact hlt) (r : Int))
        have HBN := Nu.hid (hb.setCell (p := ⟨g, k, none⟩) (by exact hg) (.int .i64 (r : Int)))
        have c1 := hiF.cell hcnt
        have f1 := hiF.free k
        clear hF hiF hb hcnt hq hr hls
        go_wp2
        go_roundw
        case rel => exact ⟨k + 1, _, by omega, by go_num, by rw [HLS.out]; go_num, HSTEP.out, HSET.out, HBN.out⟩
        case measure => simp [intOf]; omega
      · have hd : ¬ ((k : Int) < (K : Int)) := by omega
        obtain rfl : k = K := by omega
        have H1 : Hid (Bu.Free ks 0 k F) := ⟨hF.len, fun j hj => by rw [hF.lo j hj]; simp⟩
        clear hF hiF hb
        go_wp2_with (at_make; refine wpList_make_full _ rfl _ _ 25 rfl wr.heap.size 3 i0 (.int .i64 0) 1 Tryz.underlying25 hi hz0 hz1 _ _ _ _ n rfl rfl rfl rfl (by rw [hz2]; omega) (by unfold maxLen; omega) (Nat.le_refl _) ?_; refine Hid.out ?_)
        refine Nu.hid ?_
        intro w2 hrow hg2
        rw [made_zeros] at hrow
        have HI2 := Nu.hid (ints_of_row hrow)
        have hb2 : Below wr.heap.size wr w2 := (Below.refl _ _).grown hg2 (Nat.le_refl _) (fun j hj => by cases hj)
        have HIF2 := Nu.hid (HIF.out.later hb2)
        have HB2 := Nu.hid (HB.out.trans (hb2.mono HB.out.size))
        have hsw := HB.out.size
        obtain ⟨G, hG⟩ : ∃ G, G = wr.heap.size := ⟨_, rfl⟩
        rw [← hG] at HI2 hsz hsw ⊢
        have hgG : g ≠ G := by omega
        have hGg : G ≠ g := by omega
        clear hrow hg2 hb2 HIF H0 HIC1 hG
        go_wp2
        go_loopw [32] (fun c wx => ∃ (i : Nat) (F R : List Int), i ≤ n ∧ c = .int .i64 i ∧ Bu.Free ks i k F ∧ R.length = n ∧ (∀ j, j < i → R[j]? = (Bu.ranks ks)[j]?) ∧ IntsIn wx g F ∧ IntsBlk wx G R ∧ Below w.heap.size w wx) (fun c _ => n - (intOf c).toNat)
        case atStart => exact ⟨0, F, _, Nat.zero_le _, rfl, H1.out, by simp, fun j hj => by omega, HIF2.out, HI2.out, HB2.out⟩
        case round =>
          obtain ⟨i, F', R, hin, rfl, hF, hRl, hR, hiF, hiR, hb⟩ := hrel
          have HR := Nu.hid hR
          have HIR := Nu.hid hiR
          have HB3 := Nu.hid hb
          by_cases hlt : i < n
          · have hk0 : (0 : Int) ≤ (i : Int) := by omega
            have hk1 : (i : Int) < (n : Int) := by omega
            obtain ⟨x, hx⟩ : ∃ x, ks[i]? = some x := ⟨_, List.getElem?_eq_getElem (by have := HN.out; omega)⟩
            have hx0 := HIN.out x (List.mem_of_getElem? hx)
            have hx1 := HTOP.out x (List.mem_of_getElem? hx)
            obtain ⟨z, rfl⟩ : ∃ z : Nat, x = (z : Int) := ⟨x.toNat, by omega⟩
            have hzk : z < k := by omega
            obtain ⟨b, o, rfl, c0⟩ := (HA.out.later HB3.out) i _ hx
            have hcnt := hF.put z hzk
            rw [← Bu.rk_eq hx] at hcnt
            have hrl := Bu.rk_lt (ks := ks) (i := i) (by rw [HN.out]; exact hlt)
            rw [HN.out] at hrl
            have hra := Bu.ranks_at (ks := ks) (i := i) (by rw [HN.out]; exact hlt)
            have HSTEP := Nu.hid (hF.step hx hzk)
            obtain ⟨q, hq⟩ : ∃ q, Bu.rk ks i = q := ⟨_, rfl⟩
            rw [hq] at hcnt hrl HSTEP hra
            obtain ⟨y, hy⟩ : ∃ y, R[i]? = some y := ⟨_, List.getElem?_eq_getElem (by omega)⟩
            have HR2 := Nu.hid (take_set_succ (by rw [hRl, Bu.ranks_length, HN.out]) hR hra)
            have c1 := hiF.cell hcnt
            have c2 := hiR.cell hy
            have f2 := hiR.free i
            have hF2 := hiF.other (i := i) hgG (.int .i64 (q : Int))
            have hR2 := hiR.set i (q : Int)
            have c3 := hF2.cell hcnt
            have f3 := hF2.free z
            have HF3 := Nu.hid (hF2.set (i := z) (by rw [hF.len]; exact hzk) ((q : Int) + 1))
            have HR3 := Nu.hid (hR2.other (i := z) hGg (.int .i64 ((q : Int) + 1)))
            have HB4 := Nu.hid ((hb.setCell (p := ⟨G, i, none⟩) (by show _ ≤ G; omega) (.int .i64 (q : Int))).setCell (p := ⟨g, z, none⟩) (by exact hg) (.int .i64 ((q : Int) + 1)))
            have z0 : (0 : Int) ≤ (z : Int) := by omega
            have z1 : (z : Int) < (k : Int) := by omega
            have HRL : Hid ((R.set i (q : Int)).length = n) := by show _ = _; simp [hRl]
            clear hF hiF hiR hb hR hx hcnt hq hra hy hF2 hR2
            go_wp2
            go_roundw
            case rel => exact ⟨i + 1, _, _, by omega, by go_num, HSTEP.out, HRL.out, HR2.out, HF3.out, HR3.out, HB4.out⟩
            case measure => simp [intOf]; omega
          · have hd : ¬ ((i : Int) < (n : Int)) := by omega
            obtain rfl : i = n := by omega
            clear hF hiF hiR hb
            go_wp2
            go_ret
            refine ⟨G, by rw [HN.out]; rfl, hsw, ?_, HB3.out⟩
            have e : R = Bu.ranks ks := List.ext_getElem? fun j => by
              by_cases hj : j < i
              · exact HR.out j hj
              · rw [List.getElem?_eq_none (by omega), List.getElem?_eq_none (by rw [Bu.ranks_length, HN.out]; omega)]
            rw [← e]
            exact HIR.out

end Go.Proofs.YtmgoahbloppdmaaGreat
