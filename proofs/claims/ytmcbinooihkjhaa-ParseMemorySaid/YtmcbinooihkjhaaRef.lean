/-
  What the document's own scan answers, of any bytes: the same as the plain scan; and that two lists of the same tokens are found the same.
-/
import Derived.Test.YtmcbinooihkjhaaScan
import Derived.Test.YtmcbinooihkjhaaPlain3
namespace Go.Proofs.Ytmcbinooihkjhaa
open Go.RowKit

def flat (us : List Nu.Tok) : List Value := us.flatMap fun t => [.int .i64 t.kind, .int .i64 t.at', .int .i64 t.fin, .int .i64 t.num]

theorem flat_snoc (us : List Nu.Tok) (t : Nu.Tok) : flat (us ++ [t]) = flat us ++ [.int .i64 t.kind, .int .i64 t.at', .int .i64 t.fin, .int .i64 t.num] := by simp [flat]

/-- v is a slice of the tokens us, laid since block B. -/
def OwnToks (w : World) (B : Nat) (v : Value) (us : List Nu.Tok) : Prop := w.ownsRow B 48 4 v us.length (flat us)

def RefPost (n : Nat) (g : Nat → Int) (w : World) (e : Ending) (w' : World) : Prop :=
  Below w.heap.size w w' ∧
  ((33554432 < n ∧ e = .returned (.tuple #[.slice none 0 0, .int .i64 33554432, .int .i64 10])) ∨
   (n ≤ 33554432 ∧ ∃ x, Nu.scan g n = .error x ∧ e = .returned (.tuple #[.slice none 0 0, .int .i64 x.1, .int .i64 x.2])) ∨
   (n ≤ 33554432 ∧ ∃ ts v, Nu.scan g n = .ok ts ∧ e = .returned (.tuple #[v, .int .i64 0, .int .i64 0]) ∧ OwnToks w' w.heap.size v ts))

set_option maxHeartbeats 400000 in
theorem refblank_any (c : Int) (w : World) :
    Calls Try.prog 14 #[.int .u8 c] w fun e w' => e = .returned (.bool (Nu.isBlank c)) ∧ w' = w := by
  unfold Nu.isBlank
  by_cases h1 : c = 32
  · subst h1
    go_enter Try.func14, Try.ntmps14
    go_wp2
    go_ret
    exact ⟨rfl, rfl⟩
  · have e1 : (c == 32) = false := by simp [h1]
    by_cases h2 : c = 9
    · subst h2
      go_enter Try.func14, Try.ntmps14
      go_wp2
      go_ret
      exact ⟨rfl, rfl⟩
    · have e2 : (c == 9) = false := by simp [h2]
      rw [e1, e2]
      go_enter Try.func14, Try.ntmps14
      go_wp2
      go_ret
      exact ⟨by simp, rfl⟩

set_option maxHeartbeats 400000 in
theorem refdigit_any (c : Int) (w : World) :
    Calls Try.prog 15 #[.int .u8 c] w fun e w' => e = .returned (.bool (Nu.isDigit c)) ∧ w' = w := by
  unfold Nu.isDigit
  by_cases h1 : 48 ≤ c
  · have e1 : decide (48 ≤ c) = true := by simp [h1]
    rw [e1]
    go_enter Try.func15, Try.ntmps15
    go_wp2
    go_ret
    exact ⟨by simp, rfl⟩
  · have e1 : decide (48 ≤ c) = false := by simp [h1]
    rw [e1]
    go_enter Try.func15, Try.ntmps15
    go_wp2
    go_ret
    exact ⟨by simp, rfl⟩

/-- One token more, appended. -/
theorem own_step {W w1 : World} {B : Nat} {v v' : Value} {us : List Nu.Tok} {w : World} (t : Nu.Tok) (o : Obj) (hB : B ≤ W.heap.size) (hb : Below B w W) (hown : OwnToks W B v us)
    (hown' : w1.ownsRow B 48 4 v' (us.length + 1) (flat us ++ [.int .i64 t.kind, .int .i64 t.at', .int .i64 t.fin, .int .i64 t.num])) (hg : (W.alloc o).grownBy w1 v.ownBlock) : OwnToks w1 B v' (us ++ [t]) ∧ Below B w w1 := by
  refine ⟨?_, (hb.alloc hB o).grown hg (by simp; omega) (fun k hk => (hown.lt k hk).1)⟩
  unfold OwnToks
  rw [flat_snoc, List.length_append]
  exact hown'

theorem new_tok (W : World) (a b c d : Value) : ∀ j u, [a, b, c, d][j]? = some u → (W.alloc (.cells #[a, b, c, d] 48)).cell? ((⟨W.heap.size, 0, none⟩ : Addr).add j) = some u := by
  intro j u hj
  have hlt : j < 4 := by
    have := (List.getElem?_eq_some_iff.1 hj).1
    simpa using this
  rcases (show j = 0 ∨ j = 1 ∨ j = 2 ∨ j = 3 by omega) with rfl | rfl | rfl | rfl
  all_goals
    simp at hj
    subst hj
    simp [Addr.add, World.cell?_alloc_at]

theorem one_tok (a b c d : Int) : ∀ u ∈ [Value.int .i64 a, .int .i64 b, .int .i64 c, .int .i64 d], u.oneCell' = true := by
  intro u hu
  simp at hu
  rcases hu with rfl | rfl | rfl | rfl <;> rfl

set_option maxRecDepth 100000 in
set_option maxHeartbeats 8000000 in
theorem ref_any (ao : Option Addr) (n cap : Nat) (g : Nat → Int) (w : World) (ht : HasText w ao n g) (hn : n ≤ maxLen) :
    Calls Try.prog 10 #[.slice ao n cap] w (RefPost n g w) := by
  unfold maxLen at hn
  obtain ⟨i0, hi, hz0, hz1, hz2⟩ := info_parts Try.infoTok
  by_cases hA : 33554432 < n
  · have j0 : (33554432 : Int) < (n : Int) := by omega
    go_enter Try.func10, Try.ntmps10
    go_wp2
    go_ret3
    exact ⟨Below.refl _ _, .inl ⟨hA, rfl⟩⟩
  · have j0 : ¬ ((33554432 : Int) < (n : Int)) := by omega
    have HT := Nu.hid ht
    clear ht
    go_enter Try.func10, Try.ntmps10
    go_wp2_with fail
    go_loopw [5, 6] (fun v c wr => ∃ (us : List Nu.Tok) (p k : Nat), p ≤ n ∧ n - p < k ∧ us.length ≤ p ∧ Nu.scan g n = Nu.pre us (Nu.scanF g n k p) ∧ c = .int .i64 p ∧ OwnToks wr w.heap.size v us ∧ Below w.heap.size w wr) (fun _ c _ => n - (intOf c).toNat)
    case atStart => exact ⟨[], 0, n + 1, Nat.zero_le _, by omega, Nat.le_refl _, (Nu.pre_nil _).symm, rfl, World.ownsRow_nil _ _ _ _, Below.refl _ _⟩
    case round =>
      obtain ⟨us, p, k, hp, hk, hl, hscan, rfl, hown, hb⟩ := hrel
      obtain ⟨k, rfl⟩ : ∃ k', k = k' + 1 := ⟨k - 1, by omega⟩
      have HSC := Nu.hid hscan
      clear hscan
      have hBw := hb.size
      by_cases hlt : p < n
      · have hlti : (p : Int) < (n : Int) := by omega
        obtain ⟨⟨b0, b1⟩, tb, to, rfl, cq⟩ := (HT.out.later hb) p hlt
        by_cases h10 : g p = 10
        · have j1 : (g p == 10) = true := by simp [h10]
          have H10 := Nu.hid h10
          clear h10
          go_wp2_with (at_builtin; refine wpList_append_own _ rfl _ _ 41 rfl w.heap.size 48 i0 (.agg #[.int .i64 0, .int .i64 0, .int .i64 0, .int .i64 0]) 4 32 Try.underlying41 hi hz0 hz1 hz2 rfl (by decide) _ _ _ rfl (World.ownsRow.alloc hown _) ⟨wr.heap.size, 0, none⟩ 1 1 [.int .i64 2, .int .i64 p, .int .i64 ((p : Int) + 1), .int .i64 0] rfl rfl (new_tok _ _ _ _ _) (one_tok _ _ _ _) (by unfold maxLen; omega) (by omega) (by simp; omega) ?_; refine Hid.out ?_)
          refine Nu.hid ?_
          intro v' w1 hown' hg _
          obtain ⟨R1, R2⟩ := own_step ⟨2, p, (p : Int) + 1, 0⟩ _ hBw hb hown hown' hg
          have HR1 := Nu.hid R1
          have HR2 := Nu.hid R2
          clear hown' hg R1 R2
          go_wp2
          go_roundw
          case rel =>
            refine ⟨us ++ [⟨2, p, (p : Int) + 1, 0⟩], p + 1, k, hlt, by omega, by simp; omega, ?_, by go_num, HR1.out, HR2.out⟩
            rw [HSC.out, Nu.scanF_more k (Nu.next_line (Nu.IsSkip.here hp (fun _ => by rw [H10.out]; decide)) hlt H10.out) (by simp), Nu.pre_pre]
          case measure => simp [intOf]; omega
        · have j1 : (g p == 10) = false := by simp [h10]
          have H10 := Nu.hid h10
          clear h10
          cases hbk : Nu.isBlank (g p)
          · cases hdg : Nu.isDigit (g p)
            · go_wp2_with (first | (go_at_call 14; refine (refblank_any _ _).mono ?_; rintro e w' ⟨rfl, rfl⟩) | (go_at_call 15; refine (refdigit_any _ _).mono ?_; rintro e w' ⟨rfl, rfl⟩))
              go_ret3
              refine ⟨hb, .inr (.inl ⟨by omega, (p, 11), ?_, rfl⟩)⟩
              rw [HSC.out, Nu.scanF_fault k (Nu.next_byte (Nu.IsSkip.here hp (fun _ => hbk)) hlt hdg H10.out)]
              rfl
            · go_wp2_with (first | (go_at_call 14; refine (refblank_any _ _).mono ?_; rintro e w' ⟨rfl, rfl⟩) | (go_at_call 15; refine (refdigit_any _ _).mono ?_; rintro e w' ⟨rfl, rfl⟩))
              have HOWN := Nu.hid hown
              have HB := Nu.hid hb
              clear hb
              go_loop [7, 8] (fun a b => ∃ (j : Nat), p ≤ j ∧ j ≤ n ∧ (∀ i, p ≤ i → i < j → Nu.isDigit (g i) = true) ∧ a = .int .i64 j ∧ b = .int .i64 (Nu.val g p (min (j - p) 9))) (fun a _ => n - (intOf a).toNat)
              case atStart => exact ⟨p, Nat.le_refl _, hp, fun i h1 h2 => by omega, rfl, by simp [Nu.val]⟩
              case round =>
                obtain ⟨j, hpj, hjn, hall, rfl, rfl⟩ := hrel
                have hvb := Nu.val_lt_9 g p (min (j - p) 9) (by omega) (fun i hi => by
                  have := hall (p + i) (by omega) (by omega)
                  simpa [Nu.isDigit] using this)
                have hs1 := @Nu.val_min_succ g p j hpj
                have hs2 := @Nu.val_min_same g p j
                obtain ⟨V, hV⟩ : ∃ V, V = Nu.val g p (min (j - p) 9) := ⟨_, rfl⟩
                rw [← hV] at hvb hs1 hs2 ⊢
                have HS1 := Nu.hid hs1
                have HS2 := Nu.hid hs2
                have HV := Nu.hid hV
                have HALL := Nu.hid hall
                clear hs1 hs2 hV hall
                by_cases hjl : j < n
                · have hjli : (j : Int) < (n : Int) := by omega
                  have hj0 : (0 : Int) ≤ (j : Int) := by omega
                  obtain ⟨⟨d0, d1⟩, tb', to', e', cj⟩ := (HT.out.later HB.out) j hjl
                  cases e'
                  cases hdj : Nu.isDigit (g j)
                  · have HSK : Hid (Nu.IsSkip Nu.isDigit g n p j) := ⟨hpj, hjn, HALL.out, fun _ => hdj⟩
                    have hpj' : p < j := by
                      rcases Nat.lt_or_ge p j with h | h
                      · exact h
                      · have e : p = j := by omega
                        subst e
                        rw [hdg] at hdj
                        cases hdj
                    by_cases hX : 9 < j - p
                    · have x1 : (9 : Int) < (j : Int) - (p : Int) := by omega
                      go_wp2_with (first | (go_at_call 15; refine (refdigit_any _ _).mono ?_; rintro e w' ⟨rfl, rfl⟩))
                      go_ret3
                      refine ⟨HB.out, .inr (.inl ⟨by omega, (p, 12), ?_, rfl⟩)⟩
                      rw [HSC.out, Nu.scanF_fault k (Nu.next_bad (Nu.IsSkip.here hp (fun _ => hbk)) hlt hdg HSK.out (.inl hX))]
                      rfl
                    · have x1 : ¬ ((9 : Int) < (j : Int) - (p : Int)) := by omega
                      by_cases hY : g p = 48
                      · have y1 : (g p == 48) = true := by simp [hY]
                        have HY := Nu.hid hY
                        clear hY
                        by_cases hZ : 1 < j - p
                        · have z1 : (1 : Int) < (j : Int) - (p : Int) := by omega
                          go_wp2_with (first | (go_at_call 15; refine (refdigit_any _ _).mono ?_; rintro e w' ⟨rfl, rfl⟩))
                          go_ret3
                          refine ⟨HB.out, .inr (.inl ⟨by omega, (p, 12), ?_, rfl⟩)⟩
                          rw [HSC.out, Nu.scanF_fault k (Nu.next_bad (Nu.IsSkip.here hp (fun _ => hbk)) hlt hdg HSK.out (.inr ⟨hZ, HY.out⟩))]
                          rfl
                        · have z1 : ¬ ((1 : Int) < (j : Int) - (p : Int)) := by omega
                          have HNB := Nu.hid (show ¬ (9 < j - p ∨ (1 < j - p ∧ g p = 48)) from fun h => h.elim hX fun h => hZ h.1)
                          go_wp2_with (first | (go_at_call 15; refine (refdigit_any _ _).mono ?_; rintro e w' ⟨rfl, rfl⟩) | (at_builtin; refine wpList_append_own _ rfl _ _ 41 rfl w.heap.size 48 i0 (.agg #[.int .i64 0, .int .i64 0, .int .i64 0, .int .i64 0]) 4 32 Try.underlying41 hi hz0 hz1 hz2 rfl (by decide) _ _ _ rfl (World.ownsRow.alloc (by assumption) _) ⟨_, 0, none⟩ 1 1 [.int .i64 1, .int .i64 p, .int .i64 j, .int .i64 V] rfl rfl (new_tok _ _ _ _ _) (one_tok _ _ _ _) (by unfold maxLen; omega) (by omega) (by simp; omega) ?_; refine Hid.out ?_))
                          refine Nu.hid ?_
                          intro v' w1 hown' hg _
                          obtain ⟨R1, R2⟩ := own_step ⟨1, p, j, V⟩ _ HB.out.size HB.out HOWN.out hown' hg
                          have HR1 := Nu.hid R1
                          have HR2 := Nu.hid R2
                          clear hown' hg R1 R2
                          go_wp2
                          go_roundw
                          case rel =>
                            refine ⟨us ++ [⟨1, p, j, V⟩], j, k, HSK.out.hi, by omega, by simp; omega, ?_, by go_num, HR1.out, HR2.out⟩
                            rw [HSC.out, Nu.scanF_more k (Nu.next_num (Nu.IsSkip.here hp (fun _ => hbk)) hlt hdg HSK.out HNB.out) (by simp), Nu.pre_pre, ← show V = Nu.val g p (j - p) by rw [HV.out, show min (j - p) 9 = j - p by omega]]
                          case measure => simp [intOf]; omega
                      · have y1 : (g p == 48) = false := by simp [hY]
                        have HNB := Nu.hid (show ¬ (9 < j - p ∨ (1 < j - p ∧ g p = 48)) from fun h => h.elim hX fun h => hY h.2)
                        clear hY
                        go_wp2_with (first | (go_at_call 15; refine (refdigit_any _ _).mono ?_; rintro e w' ⟨rfl, rfl⟩) | (at_builtin; refine wpList_append_own _ rfl _ _ 41 rfl w.heap.size 48 i0 (.agg #[.int .i64 0, .int .i64 0, .int .i64 0, .int .i64 0]) 4 32 Try.underlying41 hi hz0 hz1 hz2 rfl (by decide) _ _ _ rfl (World.ownsRow.alloc (by assumption) _) ⟨_, 0, none⟩ 1 1 [.int .i64 1, .int .i64 p, .int .i64 j, .int .i64 V] rfl rfl (new_tok _ _ _ _ _) (one_tok _ _ _ _) (by unfold maxLen; omega) (by omega) (by simp; omega) ?_; refine Hid.out ?_))
                        refine Nu.hid ?_
                        intro v' w1 hown' hg _
                        obtain ⟨R1, R2⟩ := own_step ⟨1, p, j, V⟩ _ HB.out.size HB.out HOWN.out hown' hg
                        have HR1 := Nu.hid R1
                        have HR2 := Nu.hid R2
                        clear hown' hg R1 R2
                        go_wp2
                        go_roundw
                        case rel =>
                          refine ⟨us ++ [⟨1, p, j, V⟩], j, k, HSK.out.hi, by omega, by simp; omega, ?_, by go_num, HR1.out, HR2.out⟩
                          rw [HSC.out, Nu.scanF_more k (Nu.next_num (Nu.IsSkip.here hp (fun _ => hbk)) hlt hdg HSK.out HNB.out) (by simp), Nu.pre_pre, ← show V = Nu.val g p (j - p) by rw [HV.out, show min (j - p) 9 = j - p by omega]]
                        case measure => simp [intOf]; omega
                  · have hdd : 48 ≤ g j ∧ g j ≤ 57 := by simpa [Nu.isDigit] using hdj
                    obtain ⟨dd0, dd1⟩ := hdd
                    by_cases hX : j - p < 9
                    · have x1 : (j : Int) - (p : Int) < 9 := by omega
                      go_wp2_with (first | (go_at_call 15; refine (refdigit_any _ _).mono ?_; rintro e w' ⟨rfl, rfl⟩))
                      go_round
                      case rel =>
                        refine ⟨j + 1, by omega, by omega, fun i h1 h2 => ?_, by go_num, ?_⟩
                        · by_cases e : i = j
                          · subst e; exact hdj
                          · exact HALL.out i h1 (by omega)
                        · rw [HS1.out hX]
                      case measure => simp [intOf]; omega
                    · have x1 : ¬ ((j : Int) - (p : Int) < 9) := by omega
                      go_wp2_with (first | (go_at_call 15; refine (refdigit_any _ _).mono ?_; rintro e w' ⟨rfl, rfl⟩))
                      go_round
                      case rel =>
                        refine ⟨j + 1, by omega, by omega, fun i h1 h2 => ?_, by go_num, ?_⟩
                        · by_cases e : i = j
                          · subst e; exact hdj
                          · exact HALL.out i h1 (by omega)
                        · rw [HS2.out (by omega)]
                      case measure => simp [intOf]; omega
                · have hjni : ¬ ((j : Int) < (n : Int)) := by omega
                  have HSK : Hid (Nu.IsSkip Nu.isDigit g n p j) := ⟨hpj, hjn, HALL.out, fun h => absurd h hjl⟩
                  have hpj' : p < j := by omega
                  by_cases hX : 9 < j - p
                  · have x1 : (9 : Int) < (j : Int) - (p : Int) := by omega
                    go_wp2_with (first | (go_at_call 15; refine (refdigit_any _ _).mono ?_; rintro e w' ⟨rfl, rfl⟩))
                    go_ret3
                    refine ⟨HB.out, .inr (.inl ⟨by omega, (p, 12), ?_, rfl⟩)⟩
                    rw [HSC.out, Nu.scanF_fault k (Nu.next_bad (Nu.IsSkip.here hp (fun _ => hbk)) hlt hdg HSK.out (.inl hX))]
                    rfl
                  · have x1 : ¬ ((9 : Int) < (j : Int) - (p : Int)) := by omega
                    by_cases hY : g p = 48
                    · have y1 : (g p == 48) = true := by simp [hY]
                      have HY := Nu.hid hY
                      clear hY
                      by_cases hZ : 1 < j - p
                      · have z1 : (1 : Int) < (j : Int) - (p : Int) := by omega
                        go_wp2_with (first | (go_at_call 15; refine (refdigit_any _ _).mono ?_; rintro e w' ⟨rfl, rfl⟩))
                        go_ret3
                        refine ⟨HB.out, .inr (.inl ⟨by omega, (p, 12), ?_, rfl⟩)⟩
                        rw [HSC.out, Nu.scanF_fault k (Nu.next_bad (Nu.IsSkip.here hp (fun _ => hbk)) hlt hdg HSK.out (.inr ⟨hZ, HY.out⟩))]
                        rfl
                      · have z1 : ¬ ((1 : Int) < (j : Int) - (p : Int)) := by omega
                        have HNB := Nu.hid (show ¬ (9 < j - p ∨ (1 < j - p ∧ g p = 48)) from fun h => h.elim hX fun h => hZ h.1)
                        go_wp2_with (first | (go_at_call 15; refine (refdigit_any _ _).mono ?_; rintro e w' ⟨rfl, rfl⟩) | (at_builtin; refine wpList_append_own _ rfl _ _ 41 rfl w.heap.size 48 i0 (.agg #[.int .i64 0, .int .i64 0, .int .i64 0, .int .i64 0]) 4 32 Try.underlying41 hi hz0 hz1 hz2 rfl (by decide) _ _ _ rfl (World.ownsRow.alloc (by assumption) _) ⟨_, 0, none⟩ 1 1 [.int .i64 1, .int .i64 p, .int .i64 j, .int .i64 V] rfl rfl (new_tok _ _ _ _ _) (one_tok _ _ _ _) (by unfold maxLen; omega) (by omega) (by simp; omega) ?_; refine Hid.out ?_))
                        refine Nu.hid ?_
                        intro v' w1 hown' hg _
                        obtain ⟨R1, R2⟩ := own_step ⟨1, p, j, V⟩ _ HB.out.size HB.out HOWN.out hown' hg
                        have HR1 := Nu.hid R1
                        have HR2 := Nu.hid R2
                        clear hown' hg R1 R2
                        go_wp2
                        go_roundw
                        case rel =>
                          refine ⟨us ++ [⟨1, p, j, V⟩], j, k, HSK.out.hi, by omega, by simp; omega, ?_, by go_num, HR1.out, HR2.out⟩
                          rw [HSC.out, Nu.scanF_more k (Nu.next_num (Nu.IsSkip.here hp (fun _ => hbk)) hlt hdg HSK.out HNB.out) (by simp), Nu.pre_pre, ← show V = Nu.val g p (j - p) by rw [HV.out, show min (j - p) 9 = j - p by omega]]
                        case measure => simp [intOf]; omega
                    · have y1 : (g p == 48) = false := by simp [hY]
                      have HNB := Nu.hid (show ¬ (9 < j - p ∨ (1 < j - p ∧ g p = 48)) from fun h => h.elim hX fun h => hY h.2)
                      clear hY
                      go_wp2_with (first | (go_at_call 15; refine (refdigit_any _ _).mono ?_; rintro e w' ⟨rfl, rfl⟩) | (at_builtin; refine wpList_append_own _ rfl _ _ 41 rfl w.heap.size 48 i0 (.agg #[.int .i64 0, .int .i64 0, .int .i64 0, .int .i64 0]) 4 32 Try.underlying41 hi hz0 hz1 hz2 rfl (by decide) _ _ _ rfl (World.ownsRow.alloc (by assumption) _) ⟨_, 0, none⟩ 1 1 [.int .i64 1, .int .i64 p, .int .i64 j, .int .i64 V] rfl rfl (new_tok _ _ _ _ _) (one_tok _ _ _ _) (by unfold maxLen; omega) (by omega) (by simp; omega) ?_; refine Hid.out ?_))
                      refine Nu.hid ?_
                      intro v' w1 hown' hg _
                      obtain ⟨R1, R2⟩ := own_step ⟨1, p, j, V⟩ _ HB.out.size HB.out HOWN.out hown' hg
                      have HR1 := Nu.hid R1
                      have HR2 := Nu.hid R2
                      clear hown' hg R1 R2
                      go_wp2
                      go_roundw
                      case rel =>
                        refine ⟨us ++ [⟨1, p, j, V⟩], j, k, HSK.out.hi, by omega, by simp; omega, ?_, by go_num, HR1.out, HR2.out⟩
                        rw [HSC.out, Nu.scanF_more k (Nu.next_num (Nu.IsSkip.here hp (fun _ => hbk)) hlt hdg HSK.out HNB.out) (by simp), Nu.pre_pre, ← show V = Nu.val g p (j - p) by rw [HV.out, show min (j - p) 9 = j - p by omega]]
                      case measure => simp [intOf]; omega
          · go_wp2_with (go_at_call 14; refine (refblank_any _ _).mono ?_; rintro e w' ⟨rfl, rfl⟩)
            go_roundw
            case rel =>
              refine ⟨us, p + 1, k + 1, hlt, by omega, by omega, ?_, by go_num, hown, hb⟩
              rw [HSC.out, Nu.scanF_blank (k + 1) hlt hbk]
            case measure => simp [intOf]; omega
      · have hd : ¬ ((p : Int) < (n : Int)) := by omega
        have hpn : p = n := by omega
        have HPN := Nu.hid hpn
        clear hpn
        go_wp2_with (at_builtin; refine wpList_append_own _ rfl _ _ 41 rfl w.heap.size 48 i0 (.agg #[.int .i64 0, .int .i64 0, .int .i64 0, .int .i64 0]) 4 32 Try.underlying41 hi hz0 hz1 hz2 rfl (by decide) _ _ _ rfl (World.ownsRow.alloc hown _) ⟨wr.heap.size, 0, none⟩ 1 1 [.int .i64 3, .int .i64 n, .int .i64 n, .int .i64 0] rfl rfl (new_tok _ _ _ _ _) (one_tok _ _ _ _) (by unfold maxLen; omega) (by omega) (by simp; omega) ?_; refine Hid.out ?_)
        refine Nu.hid ?_
        intro v' w1 hown' hg _
        obtain ⟨R1, R2⟩ := own_step ⟨3, n, n, 0⟩ _ hBw hb hown hown' hg
        have HR1 := Nu.hid R1
        have HR2 := Nu.hid R2
        clear hown' hg R1 R2
        go_wp2
        go_ret3
        refine ⟨HR2.out, .inr (.inr ⟨by omega, us ++ [⟨3, n, n, 0⟩], v', ?_, rfl, HR1.out⟩)⟩
        rw [HSC.out, HPN.out, Nu.scanF_last k (Nu.next_end (Nu.IsSkip.here (Nat.le_refl _) (fun h => absurd h (Nat.lt_irrefl _)))) rfl]
        rfl

end Go.Proofs.Ytmcbinooihkjhaa
