import Derived.Test.YtodlejemkihjnaaDoorMg14
import Derived.Test.YtodlejemkihjnaaDoorMg08
import Derived.Test.YtodlejemkihjnaaDoorMg13
import Derived.Deep.QuietTactic
import Derived.BigQuiet
import Derived.Test.YtodlejemkihjnaaDoorMg11
import Derived.Test.YtodlejemkihjnaaDoorMg10
import Derived.Test.YtodlejemkihjnaaDoorProg
import Derived.Test.YtodlejemkihjnaaDoorMg00
import Derived.WalkKit
import Derived.WalkSpells
import Derived.WalkLawsBesides
import Derived.Outline
/-
  Certificates as text, pure: what a scan of a run of digits says; edges read from {0 0} on.
-/
namespace Go.Proofs.YtodlejemkihjnaaDoor
namespace Ce
open Nu
section
variable {B : Nat → Int} {n : Nat}

theorem val_run (q : Nat) : ∀ k, val (fun i => B (q + i)) 0 k = val B q k
  | 0 => rfl
  | k + 1 => by simp [val, val_run q k]

/-- What a scan of all digits that stand at i says. -/
theorem scan_run {i : Nat} (hi : i ≤ n) :
    (∃ v k, num B n i = some (v, k) ∧ k = dEnd B n i ∧ scan (fun j => B (i + j)) (dEnd B n i - i) = .ok [⟨1, 0, ((dEnd B n i - i : Nat) : Int), v⟩, ⟨3, ((dEnd B n i - i : Nat) : Int), ((dEnd B n i - i : Nat) : Int), 0⟩]) ∨
    (num B n i = none ∧ ((∃ x, scan (fun j => B (i + j)) (dEnd B n i - i) = .error x) ∨ (dEnd B n i = i ∧ scan (fun j => B (i + j)) (dEnd B n i - i) = .ok [⟨3, 0, 0, 0⟩]))) := by
  have hsk : IsSkip isDigit B n i (dEnd B n i) := skip_is isDigit B n i hi
  obtain ⟨m, hm⟩ : ∃ m, dEnd B n i - i = m := ⟨_, rfl⟩
  have hd : ∀ j, j < m → isDigit (B (i + j)) = true := fun j hj => hsk.all (i + j) (by omega) (by omega)
  rw [hm]
  by_cases h0 : m = 0
  · right
    subst h0
    have hno : ¬ okNum B n i := fun h => by have := h.1; omega
    refine ⟨by unfold num; rw [if_neg hno], .inr ⟨by have := hsk.lo; omega, ?_⟩⟩
    unfold scan
    have h1 : IsSkip isBlank (fun j => B (i + j)) 0 0 0 := IsSkip.here (Nat.le_refl _) (fun h => absurd h (Nat.lt_irrefl _))
    exact scanF_last 0 (next_end h1) rfl
  · have h1 : IsSkip isBlank (fun j => B (i + j)) m 0 0 := IsSkip.here (Nat.zero_le _) (fun _ => not_blank_of_digit (hd 0 (by omega)))
    have h2 : IsSkip isDigit (fun j => B (i + j)) m 0 m := ⟨Nat.zero_le _, Nat.le_refl _, fun j _ hj => hd j hj, fun h => absurd h (Nat.lt_irrefl _)⟩
    have hd0 := hd 0 (by omega)
    by_cases hok : okNum B n i
    · left
      have hb : ¬ (9 < m - 0 ∨ (1 < m - 0 ∧ B (i + 0) = 48)) := fun h => by
        obtain ⟨q1, q2, q3⟩ := hok
        rw [Nat.add_zero] at h
        rcases h with h | h
        · omega
        · rcases q3 with q3 | q3
          · omega
          · exact q3 h.2
      refine ⟨val B i (dEnd B n i - i), dEnd B n i, by unfold num; rw [if_pos hok], rfl, ?_⟩
      rw [hm]
      have hn := next_num (g := fun j => B (i + j)) (n := m) (p := 0) (q := 0) (r := m) h1 (by omega) hd0 h2 hb
      rw [Nat.sub_zero, val_run] at hn
      have he := next_end (g := fun j => B (i + j)) (n := m) (p := m) (IsSkip.here (Nat.le_refl _) (fun h => absurd h (Nat.lt_irrefl _)))
      unfold scan
      rw [scanF_more m hn (show (1 : Int) ≠ 3 by decide)]
      obtain ⟨m', rfl⟩ : ∃ m', m = m' + 1 := ⟨m - 1, by omega⟩
      rw [scanF_last m' he rfl]
      rfl
    · right
      have hb : 9 < m - 0 ∨ (1 < m - 0 ∧ B (i + 0) = 48) := by
        rw [Nat.add_zero]
        by_cases h9 : 9 < m
        · left; omega
        · right
          refine Classical.byContradiction fun h => hok ⟨by omega, by omega, ?_⟩
          by_cases h1 : m = 1
          · left; omega
          · right; exact fun h48 => h ⟨by omega, h48⟩
      refine ⟨by unfold num; rw [if_neg hok], .inl ⟨(0, 12), ?_⟩⟩
      unfold scan
      exact scanF_fault (x := (0, 12)) m (next_bad (g := fun j => B (i + j)) (n := m) (p := 0) (q := 0) (r := m) h1 (by omega) hd0 h2 hb)

theorem edg_zero (i : Nat) (hi : i ≤ n) (hT : Txt B n) : edg B n i (0, 0) = edg B n i (-1, 0) := by
  unfold edg
  cases hm : num B n i with
  | none => rfl
  | some q =>
    obtain ⟨u, k⟩ := q
    dsimp only
    obtain ⟨n1, -, -, n4⟩ := num_is hi hm
    by_cases h32 : B k ≠ 32
    · rw [if_pos h32, if_pos h32]
    · rw [if_neg h32, if_neg h32]
      have hlt := in_of hT (Classical.byContradiction h32 : B k = 32) (by decide)
      cases hm2 : num B n (k + 1) with
      | none => rfl
      | some q =>
        obtain ⟨v, e⟩ := q
        dsimp only
        obtain ⟨m1, -, -, -⟩ := num_is (by omega) hm2
        by_cases c1 : v ≤ u
        · rw [if_pos c1, if_pos c1]
        · have := n1.1
          have := m1.1
          have c2 : ¬ (u < ((0 : Int), (0 : Int)).1 ∨ (u = ((0 : Int), (0 : Int)).1 ∧ v ≤ ((0 : Int), (0 : Int)).2)) := by dsimp only; omega
          have c3 : ¬ (u < ((-1 : Int), (0 : Int)).1 ∨ (u = ((-1 : Int), (0 : Int)).1 ∧ v ≤ ((-1 : Int), (0 : Int)).2)) := by dsimp only; omega
          rw [if_neg c1, if_neg c1, if_neg c2, if_neg c3]
/-- It is the same whether the first edge must stand above {0 0} or above {-1 0}. -/
theorem edges_zero (k i : Nat) (hi : i ≤ n) (hT : Txt B n) : edges B n k [] (0, 0) i = edges B n k [] (-1, 0) i := by
  cases k with
  | zero => rfl
  | succ k =>
    show (match edg B n i (0, 0) with | .error e => Except.error e | .ok (p, j) => edges B n k ([] ++ [p]) p j) = (match edg B n i (-1, 0) with | .error e => Except.error e | .ok (p, j) => edges B n k ([] ++ [p]) p j)
    rw [edg_zero i hi hT]
end
end Ce
end Go.Proofs.YtodlejemkihjnaaDoor

/-
  The program's reader: does a byte stand here; a byte is wanted; one edge above another one.
-/
namespace Go.Proofs.YtodlejemkihjnaaDoor
open Go.RowKit

/-- Block b is a reader over the slice ao, n, cap, and stands at p. -/
def Rdr (w : World) (b : Nat) (ao : Option Addr) (n cap p : Nat) : Prop :=
  w.heap[b]? = some (.cells #[.slice ao n cap, .int .i64 p] 74 (0, 0))
/-- A fault at p. -/
def faultAt (p : Nat) : Ending := .panicked [{ v := .iface 72 (.int .i64 (p : Int)), recovered := false }]
section
variable {w w' : World} {b : Nat} {ao : Option Addr} {n cap p : Nat} {g : Nat → Int}
theorem Rdr.lt (h : Rdr w b ao n cap p) : b < w.heap.size := lt_of_block h
theorem Rdr.text (h : Rdr w b ao n cap p) : w.cell? ⟨b, 0, none⟩ = some (.slice ao n cap) := by unfold Rdr at h; simp [World.cell?, h]
theorem Rdr.place (h : Rdr w b ao n cap p) : w.cell? ⟨b, 1, none⟩ = some (.int .i64 p) := by unfold Rdr at h; simp [World.cell?, h]
theorem Rdr.free (h : Rdr w b ao n cap p) (i : Nat) : w.frozen? ⟨b, i, none⟩ = false := by unfold Rdr at h; simp [World.frozen?, h]
theorem Rdr.pos (h : Rdr w b ao n cap p) : posOf w b = p := by simp [posOf, h.place]
theorem Rdr.set (h : Rdr w b ao n cap p) (q : Nat) : Rdr (w.setCell ⟨b, 1, none⟩ (.int .i64 q)) b ao n cap q := by
  unfold Rdr at h ⊢
  rw [heap_setCell_same w b 1 _ _ _ h]
  simp
theorem Rdr.alloc (h : Rdr w b ao n cap p) (o : Obj) : Rdr (w.alloc o) b ao n cap p := (Below.heap_alloc w o b h.lt).trans h
theorem Rdr.drewN (h : Rdr w b ao n cap p) (k : Nat) : Rdr (w.drewN k) b ao n cap p := h
theorem Rdr.later (h : Rdr w b ao n cap p) (hb : Below w.heap.size w w') : Rdr w' b ao n cap p := (hb.block _ h.lt).trans h
theorem Rdr.kept {r : Option Nat} (h : Rdr w b ao n cap p) (hg : w.grownBy w' r) (hr : some b ≠ r) : Rdr w' b ao n cap p := (hg.block b h.lt hr).trans h
end

theorem grownBy_of_below {w w' : World} {r : Option Nat} (h : Below w.heap.size w w') : w.grownBy w' r := ⟨h.os, h.tape, h.output, h.size, fun k hk _ => h.block k hk⟩

set_option maxHeartbeats 1000000 in
/-- The reader passes a byte that stands there. -/
theorem passes17_yes {b : Nat} {ao : Option Addr} {n cap p : Nat} {g : Nat → Int} {w : World} (hs : Rdr w b ao n cap p) (ht : HasText w ao n g) (hn : n ≤ 33554432) (_hp : p ≤ n) {c : Int} (h0 : 0 ≤ c) (hc : Ce.atF n g p = c) :
    Calls Tryd.prog 29 #[.pointer (some ⟨b, 0, none⟩), .int .u8 c] w fun e w' => e = .returned (.bool true) ∧ Rdr w' b ao n cap (p + 1) ∧ w.grownBy w' (some b) ∧ p < n := by
  have hlt : p < n := by
    unfold Ce.atF at hc
    split at hc
    · assumption
    · omega
  rw [Ce.atF, if_pos hlt] at hc
  obtain ⟨⟨b0, b1⟩, tb, to, rfl, cq⟩ := ht p hlt
  rw [hc] at cq
  have c0 := hs.text
  have c1 := hs.place
  have fz := hs.free 1
  have j0 : ((p : Int) == (n : Int)) = false := by simp; omega
  have j1 : (p : Int) < (n : Int) := by omega
  have j2 : (0 : Int) ≤ (p : Int) := by omega
  have HS := Nu.hid hs
  have HT := Nu.hid ht
  clear hs ht hc
  go_enter Tryd.func29, Tryd.ntmps29
  go_wp2_with fail
  go_quiet (fail)
  go_wp2
  go_ret
  exact ⟨rfl, (HS.out.drewN _).set (p + 1), grownBy_setCell (grownBy_drewN (World.grownBy.refl _ _) _) 1 _, hlt⟩
set_option maxHeartbeats 1000000 in
/-- Another one stands there, or none. -/
theorem passes17_no {b : Nat} {ao : Option Addr} {n cap p : Nat} {g : Nat → Int} {w : World} (hs : Rdr w b ao n cap p) (ht : HasText w ao n g) (hn : n ≤ 33554432) (hp : p ≤ n) {c : Int} (hc : Ce.atF n g p ≠ c) :
    Calls Tryd.prog 29 #[.pointer (some ⟨b, 0, none⟩), .int .u8 c] w fun e w' => e = .returned (.bool false) ∧ Rdr w' b ao n cap p ∧ w.grownBy w' (some b) := by
  have c0 := hs.text
  have c1 := hs.place
  have j2 : (0 : Int) ≤ (p : Int) := by omega
  by_cases hlt : p < n
  · rw [Ce.atF, if_pos hlt] at hc
    obtain ⟨⟨b0, b1⟩, tb, to, rfl, cq⟩ := ht p hlt
    have j0 : ((p : Int) == (n : Int)) = false := by simp; omega
    have j1 : (p : Int) < (n : Int) := by omega
    have j3 : (g p == c) = false := by simp [hc]
    have HS := Nu.hid hs
    have HT := Nu.hid ht
    clear hs ht hc
    go_enter Tryd.func29, Tryd.ntmps29
    go_wp2_with fail
    go_quiet (fail)
    go_wp2
    go_ret
    exact ⟨rfl, HS.out.drewN _, grownBy_drewN (World.grownBy.refl _ _) _⟩
  · obtain rfl : p = n := by omega
    have HS := Nu.hid hs
    have HT := Nu.hid ht
    clear hs ht hc
    go_enter Tryd.func29, Tryd.ntmps29
    go_wp2_with fail
    go_quiet (fail)
    go_wp2
    go_ret
    exact ⟨rfl, HS.out.drewN _, grownBy_drewN (World.grownBy.refl _ _) _⟩

set_option maxHeartbeats 1000000 in
theorem want17_yes {b : Nat} {ao : Option Addr} {n cap p : Nat} {g : Nat → Int} {w : World} (hs : Rdr w b ao n cap p) (ht : HasText w ao n g) (hn : n ≤ 33554432) (hp : p ≤ n) {c : Int} (h0 : 0 ≤ c) (hc : Ce.atF n g p = c) :
    Calls Tryd.prog 31 #[.pointer (some ⟨b, 0, none⟩), .int .u8 c] w fun e w' => e = .returned (.tuple #[]) ∧ Rdr w' b ao n cap (p + 1) ∧ w.grownBy w' (some b) ∧ p < n := by
  have HP := Nu.hid (passes17_yes hs ht hn hp h0 hc)
  clear hs ht hc
  go_enter Tryd.func31, Tryd.ntmps31
  go_wp2_with (go_at_call 29; refine HP.out.mono ?_; rintro e w' ⟨rfl, h⟩)
  go_end0
  exact ⟨rfl, h⟩
set_option maxHeartbeats 1000000 in
theorem want17_no {b : Nat} {ao : Option Addr} {n cap p : Nat} {g : Nat → Int} {w : World} (hs : Rdr w b ao n cap p) (ht : HasText w ao n g) (hn : n ≤ 33554432) (hp : p ≤ n) {c : Int} (hc : Ce.atF n g p ≠ c) :
    Calls Tryd.prog 31 #[.pointer (some ⟨b, 0, none⟩), .int .u8 c] w fun e w' => e = faultAt p ∧ w.grownBy w' (some b) := by
  have HP := Nu.hid (passes17_no hs ht hn hp hc)
  clear hs ht hc
  go_enter Tryd.func31, Tryd.ntmps31
  go_wp2_with (go_at_call 29; refine HP.out.mono ?_; rintro e w' ⟨rfl, hr, hg⟩; have c1 := hr.place; clear hr)
  exact ⟨rfl, rfl, hg⟩

theorem pdigits17 (x : Int) (w : World) : Calls Tryd.prog 80 #[.int .i64 x] w fun e w' => e = .returned (.bool (decide (0 ≤ x ∧ x ≤ 999999999))) ∧ w' = w := by
  by_cases h0 : 0 ≤ x
  · by_cases h1 : x ≤ 999999999
    · rw [decide_eq_true ⟨h0, h1⟩]
      go_enter Tryd.func80, Tryd.ntmps80
      go_wp2
      go_ret
      exact ⟨rfl, rfl⟩
    · rw [decide_eq_false (fun h => h1 h.2)]
      go_enter Tryd.func80, Tryd.ntmps80
      go_wp2
      go_ret
      exact ⟨rfl, rfl⟩
  · rw [decide_eq_false (fun h => h0 h.1)]
    go_enter Tryd.func80, Tryd.ntmps80
    go_wp2
    go_ret
    exact ⟨rfl, rfl⟩
set_option maxHeartbeats 1000000 in
theorem above17 (a b c d : Int) (w : World) : Calls Tryd.prog 41 #[.agg #[.int .i64 a, .int .i64 b], .agg #[.int .i64 c, .int .i64 d]] w fun e w' => e = .returned (.bool (decide (c < a ∨ (c = a ∧ d < b)))) ∧ Below w.heap.size w w' := by
  by_cases h0 : c < a
  · rw [decide_eq_true (.inl h0)]
    go_enter Tryd.func41, Tryd.ntmps41
    go_wp2
    go_ret
    exact ⟨rfl, ((Below.refl _ _).alloc (Nat.le_refl _) _).alloc (by simp) _⟩
  · by_cases h1 : c = a
    · subst h1
      by_cases h2 : d < b
      · rw [decide_eq_true (.inr ⟨rfl, h2⟩)]
        go_enter Tryd.func41, Tryd.ntmps41
        go_wp2
        go_ret
        exact ⟨rfl, ((Below.refl _ _).alloc (Nat.le_refl _) _).alloc (by simp) _⟩
      · rw [decide_eq_false (by omega)]
        go_enter Tryd.func41, Tryd.ntmps41
        go_wp2
        go_ret
        exact ⟨rfl, ((Below.refl _ _).alloc (Nat.le_refl _) _).alloc (by simp) _⟩
    · have h3 : (a == c) = false := by simp; omega
      rw [decide_eq_false (by omega)]
      go_enter Tryd.func41, Tryd.ntmps41
      go_wp2
      go_ret
      exact ⟨rfl, ((Below.refl _ _).alloc (Nat.le_refl _) _).alloc (by simp) _⟩
end Go.Proofs.YtodlejemkihjnaaDoor

/-
  The program's proof: has the form room for it?
-/
namespace Go.Proofs.YtodlejemkihjnaaDoor
open Go.RowKit

set_option maxRecDepth 100000 in
set_option maxHeartbeats 4000000 in
theorem pfitsL17_any {w : World} {ao : Option Addr} {c : Nat} {ls : List (List Int)} (h : Ce.ListsAt w ao ls) (hs : ls.length ≤ 4611686018427387904) (hl : ∀ l ∈ ls, l.length ≤ 4611686018427387904) :
    Calls Tryd.prog 79 #[.slice ao ls.length c] w fun e w' => Ce.Says e (Ce.okLs ls) ∧ Below w.heap.size w w' := by
  obtain ⟨n, hn⟩ : ∃ n, ls.length = n := ⟨_, rfl⟩
  rw [hn] at hs ⊢
  have HS := Nu.hid h
  have HL := Nu.hid hl
  have HN := Nu.hid hn
  clear h hl hn
  by_cases hc : 1048576 < n
  · have hci : (1048576 : Int) < (n : Int) := by omega
    go_enter Tryd.func79, Tryd.ntmps79
    go_wp2
    go_ret
    exact ⟨Ce.Says.no fun h => by have := h.2; have := HN.out; omega, Below.refl _ _⟩
  · have hci : ¬ ((1048576 : Int) < (n : Int)) := by omega
    go_enter Tryd.func79, Tryd.ntmps79
    go_wp2
    go_loopw [12] (fun iv wr => ∃ k : Nat, k ≤ n ∧ iv = .int .i64 (k : Int) ∧ (∀ i l, i < k → ls[i]? = some l → Ce.okL l) ∧ Below w.heap.size w wr) (fun iv _ => n - (intOf iv).toNat)
    case atStart => exact ⟨0, Nat.zero_le _, rfl, fun i l h => by omega, Below.refl _ _⟩
    case round =>
      obtain ⟨k, hk, rfl, hok, hbw⟩ := hrel
      have HOK := Nu.hid hok
      have HBW := Nu.hid hbw
      clear hok
      by_cases hlt : k < n
      · have hlti : (k : Int) < (n : Int) := by omega
        obtain ⟨l, hl⟩ : ∃ l, ls[k]? = some l := ⟨_, List.getElem?_eq_getElem (by have := HN.out; omega)⟩
        have hll := HL.out l (List.mem_of_getElem? hl)
        obtain ⟨b, o, xa, xc, rfl, c0, hia⟩ := (HS.out.later hbw) k l hl
        obtain ⟨m, hm⟩ : ∃ m, l.length = m := ⟨_, rfl⟩
        have HLK := Nu.hid hl
        have HM := Nu.hid hm
        have HIA := Nu.hid hia
        rw [hm] at hll c0
        have k0 : (0 : Int) ≤ (k : Int) := by omega
        clear hl hm hia hbw
        go_wp2
        go_loopw [18] (fun jv wx => ∃ j : Nat, j ≤ m ∧ jv = .int .i64 (j : Int) ∧ (∀ i x, i < j → l[i]? = some x → Ce.okN x ∧ l.headD 0 ≤ x) ∧ wx = wr) (fun jv _ => m - (intOf jv).toNat)
        case atStart => exact ⟨0, Nat.zero_le _, rfl, fun i x h => by omega, rfl⟩
        case round =>
          obtain ⟨j, hj, rfl, hokj, rfl⟩ := hrel
          have HOKJ := Nu.hid hokj
          have j0 : (0 : Int) ≤ (j : Int) := by omega
          clear hokj
          by_cases hjm : j < m
          · have hjmi : (j : Int) < (m : Int) := by omega
            have hm0 : (0 : Int) < (m : Int) := by omega
            obtain ⟨x, hx⟩ : ∃ x, l[j]? = some x := ⟨_, List.getElem?_eq_getElem (by have := HM.out; omega)⟩
            obtain ⟨y, hy⟩ : ∃ y, l[0]? = some y := ⟨_, List.getElem?_eq_getElem (by have := HM.out; omega)⟩
            have hy0 : l.headD 0 = y := by
              cases l with
              | nil => cases hy
              | cons a r => cases hy; rfl
            obtain ⟨xb, xo, rfl, d0⟩ := HIA.out j x hx
            obtain ⟨xb', xo', e', d1⟩ := HIA.out 0 y hy
            cases e'
            rw [Nat.add_zero] at d1
            have HX := Nu.hid hx
            have HY0 := Nu.hid hy0
            clear hx hy hy0
            by_cases hxy : x < y
            · have HNO : Hid (¬ Ce.okL l) := fun h => by
                have := (h x (List.mem_of_getElem? HX.out)).2
                have := HY0.out
                omega
              go_wp2
              go_ret
              exact ⟨Ce.Says.no fun h => HNO.out (h.1 l (List.mem_of_getElem? HLK.out)), HBW.out⟩
            · by_cases hn1 : 0 ≤ x ∧ x ≤ 999999999
              · have HNX : Hid (Ce.okN x) := hn1
                have HD : Hid (∀ W, Calls Tryd.prog 80 #[.int .i64 x] W fun e w' => e = .returned (.bool true) ∧ w' = W) := fun W => by have := pdigits17 x W; rwa [decide_eq_true hn1] at this
                clear hn1
                go_wp2_with (go_at_call 80; refine (HD.out _).mono ?_; rintro e w' ⟨rfl, hw'⟩; obtain rfl := hw'.symm; clear hw')
                go_roundw
                case rel =>
                  refine ⟨j + 1, by omega, by go_num, fun i z hi hz => ?_, trivial⟩
                  by_cases hij : i = j
                  · subst hij
                    rw [HX.out] at hz
                    cases hz
                    exact ⟨HNX.out, by have := HY0.out; omega⟩
                  · exact HOKJ.out i z (by omega) hz
                case measure => simp [intOf]; omega
              · have HNO : Hid (¬ Ce.okL l) := fun h => hn1 (h x (List.mem_of_getElem? HX.out)).1
                have HD : Hid (∀ W, Calls Tryd.prog 80 #[.int .i64 x] W fun e w' => e = .returned (.bool false) ∧ w' = W) := fun W => by have := pdigits17 x W; rwa [decide_eq_false hn1] at this
                clear hn1
                go_wp2_with (go_at_call 80; refine (HD.out _).mono ?_; rintro e w' ⟨rfl, hw'⟩; obtain rfl := hw'.symm; clear hw')
                go_ret
                exact ⟨Ce.Says.no fun h => HNO.out (h.1 l (List.mem_of_getElem? HLK.out)), HBW.out⟩
          · have hjmi : ¬ ((j : Int) < (m : Int)) := by omega
            go_wp2
            go_roundw
            case rel =>
              refine ⟨k + 1, by omega, by go_num, fun i z hi hz => ?_, HBW.out⟩
              by_cases hik : i = k
              · subst hik
                rw [HLK.out] at hz
                cases hz
                intro x hx
                obtain ⟨u, hu⟩ := List.getElem?_of_mem hx
                exact HOKJ.out u x (by have := HM.out; have := (List.getElem?_eq_some_iff.1 hu).1; omega) hu
              · exact HOK.out i z (by omega) hz
            case measure => simp [intOf]; omega
      · have hlti : ¬ ((k : Int) < (n : Int)) := by omega
        obtain rfl : k = n := by omega
        go_wp2
        go_ret
        refine ⟨Ce.Says.yes ⟨fun l hl => ?_, by have := HN.out; omega⟩, HBW.out⟩
        obtain ⟨i, hi⟩ := List.getElem?_of_mem hl
        exact HOK.out i l (by have := HN.out; have := (List.getElem?_eq_some_iff.1 hi).1; omega) hi
end Go.Proofs.YtodlejemkihjnaaDoor

/-
  What the scanner's small callees answer: blank and digit of a byte.
-/
namespace Go.Proofs.YtodlejemkihjnaaDoor
open Go.RowKit

set_option maxHeartbeats 400000 in
theorem blank_any (c : Int) (w : World) :
    Calls Tryd.prog 60 #[.int .u8 c] w fun e w' => e = .returned (.bool (Nu.isBlank c)) ∧ w' = w := by
  unfold Nu.isBlank
  by_cases h1 : c = 32
  · subst h1
    go_enter Tryd.func60, Tryd.ntmps60
    go_wp2
    go_ret
    exact ⟨rfl, rfl⟩
  · have e1 : (c == 32) = false := by simp [h1]
    by_cases h2 : c = 9
    · subst h2
      go_enter Tryd.func60, Tryd.ntmps60
      go_wp2
      go_ret
      exact ⟨rfl, rfl⟩
    · have e2 : (c == 9) = false := by simp [h2]
      rw [e1, e2]
      go_enter Tryd.func60, Tryd.ntmps60
      go_wp2
      go_ret
      exact ⟨by simp, rfl⟩

set_option maxHeartbeats 400000 in
theorem digit_any (c : Int) (w : World) :
    Calls Tryd.prog 61 #[.int .u8 c] w fun e w' => e = .returned (.bool (Nu.isDigit c)) ∧ w' = w := by
  unfold Nu.isDigit
  by_cases h1 : 48 ≤ c
  · have e1 : decide (48 ≤ c) = true := by simp [h1]
    rw [e1]
    go_enter Tryd.func61, Tryd.ntmps61
    go_wp2
    go_ret
    exact ⟨by simp, rfl⟩
  · have e1 : decide (48 ≤ c) = false := by simp [h1]
    rw [e1]
    go_enter Tryd.func61, Tryd.ntmps61
    go_wp2
    go_ret
    exact ⟨by simp, rfl⟩

end Go.Proofs.YtodlejemkihjnaaDoor

/-
  What the scanner's pass does: it goes to the first byte of another kind.
-/
namespace Go.Proofs.YtodlejemkihjnaaDoor
open Go.RowKit

set_option maxHeartbeats 1000000 in
theorem pass_digit (b : Nat) (ao : Option Addr) (n cap p : Nat) (g : Nat → Int) (w : World) (hs : Scn w b ao n cap p) (ht : HasText w ao n g) (ha : Apart ao b) (hp : p ≤ n) (hn : n ≤ 33554432) :
    Calls Tryd.prog 59 #[.pointer (some ⟨b, 0, none⟩), .func (.func 61) #[] #[]] w fun e w' =>
      e = .returned (.tuple #[]) ∧ ∃ q, Nu.IsSkip Nu.isDigit g n p q ∧ Scn w' b ao n cap q ∧ w.grownBy w' (some b) := by
  go_enter Tryd.func59, Tryd.ntmps59
  go_wp2
  go_loopw [] (fun wr => ∃ q : Nat, p ≤ q ∧ q ≤ n ∧ (∀ i, p ≤ i → i < q → Nu.isDigit (g i) = true) ∧ Scn wr b ao n cap q ∧ w.grownBy wr (some b)) (fun wr => n - posOf wr b)
  case atStart => exact ⟨p, Nat.le_refl _, hp, fun i h1 h2 => by omega, hs, World.grownBy.refl _ _⟩
  case round =>
    obtain ⟨q, hq0, hq1, hall, hsr, hgr⟩ := hrel
    have c0 := hsr.text
    have c1 := hsr.place
    have fz := hsr.free 1
    have HP : Hid (posOf wr b = q) := hsr.pos
    by_cases hlt : q < n
    · obtain ⟨⟨b0, b1⟩, tb, to, rfl, hcr⟩ := (ht.grown hgr ha) q hlt
      have hlti : (q : Int) < (n : Int) := by omega
      have hq0' : (0 : Int) ≤ (q : Int) := by omega
      have ht' := Nu.hid ht
      have hall' := Nu.hid hall
      clear ht hall
      cases hd : Nu.isDigit (g q)
      · go_wp2_with fail
        go_quiet ((go_at_call 61; exact Calls.quiet_of_same (digit_any _ _)))
        go_wp2
        go_end0
        exact ⟨rfl, q, ⟨hq0, hq1, hall'.out, fun _ => hd⟩, hsr.drewN _, grownBy_drewN hgr _⟩
      · go_wp2_with fail
        go_quiet ((go_at_call 61; exact Calls.quiet_of_same (digit_any _ _)))
        go_wp2
        go_roundw
        case rel =>
          refine ⟨q + 1, by omega, by omega, fun i h1 h2 => ?_, ?_, ?_⟩
          · by_cases e : i = q
            · subst e; exact hd
            · exact hall'.out i h1 (by omega)
          · exact (hsr.drewN _).set (q + 1)
          · exact grownBy_setCell (grownBy_drewN hgr _) 1 _
        case measure =>
          have e1 : posOf ((wr.drewN nq).setCell ⟨b, 1, none⟩ (.int .i64 ((q : Int) + 1))) b = q + 1 := ((hsr.drewN nq).set (q + 1)).pos
          have e2 : posOf wr b = q := HP.out
          rw [e1, e2]
          omega
    · have hd : decide ((q : Int) < (n : Int)) = false := by simp; omega
      have hqn : q = n := by omega
      have HQ := Nu.hid hqn
      clear hqn
      go_wp2_with fail
      go_quiet (fail)
      go_wp2
      go_end0
      exact ⟨rfl, q, ⟨hq0, hq1, hall, fun h => absurd h hlt⟩, hsr.drewN _, grownBy_drewN hgr _⟩

set_option maxHeartbeats 1000000 in
theorem pass_blank (b : Nat) (ao : Option Addr) (n cap p : Nat) (g : Nat → Int) (w : World) (hs : Scn w b ao n cap p) (ht : HasText w ao n g) (ha : Apart ao b) (hp : p ≤ n) (hn : n ≤ 33554432) :
    Calls Tryd.prog 59 #[.pointer (some ⟨b, 0, none⟩), .func (.func 60) #[] #[]] w fun e w' =>
      e = .returned (.tuple #[]) ∧ ∃ q, Nu.IsSkip Nu.isBlank g n p q ∧ Scn w' b ao n cap q ∧ w.grownBy w' (some b) := by
  go_enter Tryd.func59, Tryd.ntmps59
  go_wp2
  go_loopw [] (fun wr => ∃ q : Nat, p ≤ q ∧ q ≤ n ∧ (∀ i, p ≤ i → i < q → Nu.isBlank (g i) = true) ∧ Scn wr b ao n cap q ∧ w.grownBy wr (some b)) (fun wr => n - posOf wr b)
  case atStart => exact ⟨p, Nat.le_refl _, hp, fun i h1 h2 => by omega, hs, World.grownBy.refl _ _⟩
  case round =>
    obtain ⟨q, hq0, hq1, hall, hsr, hgr⟩ := hrel
    have c0 := hsr.text
    have c1 := hsr.place
    have fz := hsr.free 1
    have HP : Hid (posOf wr b = q) := hsr.pos
    by_cases hlt : q < n
    · obtain ⟨⟨b0, b1⟩, tb, to, rfl, hcr⟩ := (ht.grown hgr ha) q hlt
      have hlti : (q : Int) < (n : Int) := by omega
      have hq0' : (0 : Int) ≤ (q : Int) := by omega
      have ht' := Nu.hid ht
      have hall' := Nu.hid hall
      clear ht hall
      cases hd : Nu.isBlank (g q)
      · go_wp2_with fail
        go_quiet ((go_at_call 60; exact Calls.quiet_of_same (blank_any _ _)))
        go_wp2
        go_end0
        exact ⟨rfl, q, ⟨hq0, hq1, hall'.out, fun _ => hd⟩, hsr.drewN _, grownBy_drewN hgr _⟩
      · go_wp2_with fail
        go_quiet ((go_at_call 60; exact Calls.quiet_of_same (blank_any _ _)))
        go_wp2
        go_roundw
        case rel =>
          refine ⟨q + 1, by omega, by omega, fun i h1 h2 => ?_, ?_, ?_⟩
          · by_cases e : i = q
            · subst e; exact hd
            · exact hall'.out i h1 (by omega)
          · exact (hsr.drewN _).set (q + 1)
          · exact grownBy_setCell (grownBy_drewN hgr _) 1 _
        case measure =>
          have e1 : posOf ((wr.drewN nq).setCell ⟨b, 1, none⟩ (.int .i64 ((q : Int) + 1))) b = q + 1 := ((hsr.drewN nq).set (q + 1)).pos
          have e2 : posOf wr b = q := HP.out
          rw [e1, e2]
          omega
    · have hd : decide ((q : Int) < (n : Int)) = false := by simp; omega
      have hqn : q = n := by omega
      have HQ := Nu.hid hqn
      clear hqn
      go_wp2_with fail
      go_quiet (fail)
      go_wp2
      go_end0
      exact ⟨rfl, q, ⟨hq0, hq1, hall, fun h => absurd h hlt⟩, hsr.drewN _, grownBy_drewN hgr _⟩

end Go.Proofs.YtodlejemkihjnaaDoor

/-
  What value answers: the number that at most nine digits write.
-/
namespace Go.Proofs.YtodlejemkihjnaaDoor
open Go.RowKit

set_option maxHeartbeats 1000000 in
theorem value_any (ao : Option Addr) (n cap : Nat) (g : Nat → Int) (w : World) (ht : HasText w ao n g) (hn : n ≤ 9) (hd : ∀ i, i < n → 48 ≤ g i ∧ g i ≤ 57) :
    Calls Tryd.prog 63 #[.slice ao n cap] w fun e w' => e = .returned (.int .i64 (Nu.val g 0 n)) ∧ w' = w := by
  go_enter Tryd.func63, Tryd.ntmps63
  go_wp2
  go_loop [3, 8] (fun v i => ∃ k : Nat, k ≤ n ∧ i = .int .i64 k ∧ v = .int .i64 (Nu.val g 0 k)) (fun _ i => n - (intOf i).toNat)
  case atStart => exact ⟨0, Nat.zero_le _, rfl, rfl⟩
  case round =>
    obtain ⟨k, hk, rfl, rfl⟩ := hrel
    have hb := Nu.val_lt_9 g 0 k (by omega) (fun i hi => by simpa using hd i (by omega))
    by_cases hlt : k < n
    · obtain ⟨_, tb, to, rfl, hc⟩ := ht k hlt
      have hdk := hd k hlt
      have HS := Nu.hid (show Nu.val g 0 (k + 1) = 10 * Nu.val g 0 k + (g k - 48) by simp [Nu.val])
      have HT := Nu.hid ht
      have HD := Nu.hid hd
      clear ht hd
      obtain ⟨V, hV⟩ : ∃ V, V = Nu.val g 0 k := ⟨_, rfl⟩
      rw [← hV] at hb HS ⊢
      have HV := Nu.hid hV
      clear hV
      obtain ⟨C, hC⟩ : ∃ C, C = g k := ⟨_, rfl⟩
      rw [← hC] at hdk hc HS
      have HC := Nu.hid hC
      clear hC
      go_wp2
      go_round
      case rel =>
        refine ⟨k + 1, by omega, by go_num, ?_⟩
        rw [HS.out]
      case measure => simp [intOf]; omega
    · go_wp2
      go_ret
      have : k = n := by omega
      subst this
      exact ⟨rfl, rfl⟩

end Go.Proofs.YtodlejemkihjnaaDoor
