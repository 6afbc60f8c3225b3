/-
  counts: by key, how often it stands there.
-/
import Derived.Test.YtofphdmebjcofaaDoorBuMax
import Derived.Test.YtofphdmebjcofaaDoorCoOwn
import Derived.BigRegion
import Derived.Laws.AppendOwnNone
namespace Go.Proofs.YtofphdmebjcofaaDoor
open Go.RowKit

/-- C tells of each key below K how often it stands among the first i. -/
structure Bu.Cnt (ks : List Int) (i K : Nat) (C : List Int) : Prop where
  len : C.length = K
  put : ∀ k, k < K → C[k]? = some ((ks.take i).count (k : Int) : Int)

theorem Bu.Cnt.start (ks : List Int) (K : Nat) : Bu.Cnt ks 0 K (List.replicate K 0) := ⟨by simp, fun k hk => by simp [hk]⟩

theorem Bu.Cnt.step {ks : List Int} {i K k : Nat} {C : List Int} (h : Bu.Cnt ks i K C) (hi : ks[i]? = some (k : Int)) (hk : k < K) : Bu.Cnt ks (i + 1) K (C.set k (((ks.take i).count (k : Int) : Int) + 1)) := by
  refine ⟨by rw [List.length_set]; exact h.len, fun j hj => ?_⟩
  rw [List.getElem?_set, Bu.count_take_succ hi]
  by_cases e : k = j
  · subst e
    rw [if_pos rfl, if_pos (by rw [h.len]; exact hk), if_pos rfl]
    simp
  · rw [if_neg e, if_neg (by omega), h.put j hj]
    simp

def CntPost (m0 : Int) (ks : List Int) (w : World) (e : Ending) (w' : World) : Prop :=
  (ks = [] ∧ e = .returned (.slice none 0 0) ∧ w' = w) ∨
  ∃ (g K : Nat) (C : List Int), 0 < ks.length ∧ e = .returned (.slice (some ⟨g, 0, none⟩) K K) ∧ w.heap.size ≤ g ∧ g < w'.heap.size ∧ IntsIn w' g C ∧ Bu.Cnt ks ks.length K C ∧ (K : Int) ≤ m0 + 1 ∧ (∀ z ∈ ks, z < (K : Int)) ∧ Below w.heap.size w w'

set_option maxRecDepth 100000 in
set_option maxHeartbeats 4000000 in
theorem counts_any (ao : Option Addr) (ca n : Nat) (ks : List Int) (w : World) (hn : ks.length = n) (hl : n ≤ 17592186043904) (ha : IntsAt w ao ks) (m0 : Int) (hm0 : m0 ≤ 4194304) (hin : Bu.In m0 ks) :
    Calls Tryd.prog 23 #[.slice ao n ca] w (CntPost m0 ks w) := by
  by_cases h0 : n = 0
  · subst h0
    go_enter Tryd.func23, Tryd.ntmps23
    go_wp2
    go_ret
    exact .inl ⟨List.length_eq_zero_iff.1 hn, rfl, rfl⟩
  obtain ⟨i0, hi, hz0, hz1, hz2⟩ := info_parts Tryd.infoNum
  have HM := Nu.hid (max_any ao ca n ks w hn (by omega) hl ha)
  have HA := Nu.hid ha
  have HN := Nu.hid hn
  have HIN := Nu.hid hin
  have j0 : ((n : Int) == 0) = false := by simp; omega
  clear ha hn hin
  go_enter Tryd.func23, Tryd.ntmps23
  go_wp2_with (go_at_call 25; refine HM.out.mono ?_; rintro e w1 ⟨m, rfl, hm, hw1⟩; obtain rfl := hw1.symm; have HMX := Nu.hid hm; clear hm; refine Hid.out ?_)
  refine Nu.hid ?_
  have hmb : 0 ≤ m ∧ m ≤ m0 := by
    obtain ⟨⟨j, hj, e⟩, -⟩ := HMX.out
    exact HIN.out m (List.mem_of_getElem? e)
  obtain ⟨M, rfl⟩ : ∃ M : Nat, m = (M : Int) := ⟨m.toNat, by omega⟩
  have HTOP : Hid (∀ z ∈ ks, z < ((M + 1 : Nat) : Int)) := fun z hz => by
    obtain ⟨j, hj, rfl⟩ := List.getElem_of_mem hz
    have := HMX.out.2 j _ (by have := HN.out; omega) (List.getElem?_eq_getElem hj)
    omega
  clear HM
  go_wp2_with (at_make; refine wpList_make_full _ rfl _ _ 22 rfl w.heap.size 3 i0 (.int .i64 0) 1 Tryd.underlying22 hi hz0 hz1 _ _ _ _ (M + 1) rfl rfl rfl rfl (by rw [hz2]; omega) (by unfold maxLen; omega) (Nat.le_refl _) ?_; refine Hid.out ?_)
  refine Nu.hid ?_
  intro w2 hrow hg2
  rw [made_zeros] at hrow
  have hik := (ints_of_row hrow).ins
  have hb2 : Below w.heap.size w w2 := (Below.refl _ _).grown hg2 (Nat.le_refl _) (fun j hj => by cases hj)
  have HI2 := Nu.hid hik
  have HB2 := Nu.hid hb2
  clear hrow hg2 hik hb2
  obtain ⟨K, hK⟩ : ∃ K, M + 1 = K := ⟨_, rfl⟩
  rw [hK] at HI2 HTOP ⊢
  have HK2 : Hid ((K : Int) ≤ m0 + 1) := by show _ ≤ _; omega
  have hK2 : K ≤ 4194305 := by omega
  clear hK hmb
  go_wp2
  go_loopw [15] (fun c wr => ∃ (i : Nat) (C : List Int), i ≤ n ∧ c = .int .i64 i ∧ Bu.Cnt ks i K C ∧ IntsIn wr w.heap.size C ∧ Below w.heap.size w wr) (fun c _ => n - (intOf c).toNat)
  case atStart => exact ⟨0, _, Nat.zero_le _, rfl, Bu.Cnt.start ks K, HI2.out, HB2.out⟩
  case round =>
    obtain ⟨i, C, hin, rfl, hC, hiC, hb⟩ := hrel
    have hsz := hiC.lt
    have HC := Nu.hid hC
    have HIC := Nu.hid hiC
    have HB := Nu.hid hb
    by_cases hlt : i < n
    · have hk0 : (0 : Int) ≤ (i : Int) := by omega
      have hk1 : (i : Int) < (n : Int) := by omega
      obtain ⟨x, hx⟩ : ∃ x, ks[i]? = some x := ⟨_, List.getElem?_eq_getElem (by have := HN.out; omega)⟩
      have hx0 := HIN.out x (List.mem_of_getElem? hx)
      have hx1 := HTOP.out x (List.mem_of_getElem? hx)
      obtain ⟨k, rfl⟩ : ∃ k : Nat, x = (k : Int) := ⟨x.toNat, by omega⟩
      have hkK : k < K := by omega
      obtain ⟨b, o, rfl, c0⟩ := (HA.out.later HB.out) i _ hx
      have hcnt := hC.put k hkK
      have hcl : ((ks.take i).count (k : Int)) ≤ i := Nat.le_trans List.count_le_length (by simp; omega)
      have HSTEP := Nu.hid (hC.step hx hkK)
      obtain ⟨q, hq⟩ : ∃ q, (ks.take i).count (k : Int) = q := ⟨_, rfl⟩
      rw [hq] at hcnt hcl HSTEP
      have HSET := Nu.hid (hiC.set (i := k) (by rw [hC.len]; exact hkK) ((q : Int) + 1))
      have HBN := Nu.hid (hb.setCell (p := ⟨w.heap.size, k, none⟩) (Nat.le_refl _) (.int .i64 ((q : Int) + 1)))
      have c1 := hiC.cell hcnt
      have f1 := hiC.free k
      have k0 : (0 : Int) ≤ (k : Int) := by omega
      have k1 : (k : Int) < (K : Int) := by omega
      clear hC hiC hb hx hcnt hq
      go_wp2
      go_roundw
      case rel => exact ⟨i + 1, _, by omega, by go_num, HSTEP.out, HSET.out, HBN.out⟩
      case measure => simp [intOf]; omega
    · have hd : ¬ ((i : Int) < (n : Int)) := by omega
      obtain rfl : i = n := by omega
      clear hC hiC hb
      go_wp2
      go_ret
      exact .inr ⟨w.heap.size, K, C, by have := HN.out; omega, rfl, Nat.le_refl _, hsz, HIC.out, by rw [HN.out]; exact HC.out, HK2.out, HTOP.out, HB.out⟩

/-- The same, however few they are. -/
theorem counts_lst (ao : Option Addr) (ca n : Nat) (ks : List Int) (w : World) (hn : ks.length = n) (hl : n ≤ 17592186043904) (ha : IntsAt w ao ks) (m0 : Int) (h0 : 0 ≤ m0) (hm0 : m0 ≤ 4194304) (hin : Bu.In m0 ks) :
    Calls Tryd.prog 23 #[.slice ao n ca] w fun e w' => ∃ (co : Option Addr) (K : Nat) (C : List Int), e = .returned (.slice co K K) ∧ IntsAt w' co C ∧ Bu.Cnt ks ks.length K C ∧ (K : Int) ≤ m0 + 1 ∧ (∀ x, co = some x → w.heap.size ≤ x.block ∧ x.block < w'.heap.size) ∧ Below w.heap.size w w' :=
  (counts_any ao ca n ks w hn hl ha m0 hm0 hin).mono (by
    rintro e w' (⟨rfl, rfl, rfl⟩ | ⟨g, K, C, -, rfl, h1, h2, h3, h4, h5, -, h6⟩)
    · exact ⟨none, 0, [], rfl, IntsAt.nil _ _, ⟨rfl, fun k hk => by omega⟩, by omega, (fun x hx => nomatch hx), Below.refl _ _⟩
    · exact ⟨_, K, C, rfl, fun j x hj => ⟨g, 0, rfl, by rw [Nat.zero_add]; exact h3.cell hj⟩, h4, h5, (fun x hx => by cases hx; exact ⟨h1, h2⟩), h6⟩)

end Go.Proofs.YtofphdmebjcofaaDoor
