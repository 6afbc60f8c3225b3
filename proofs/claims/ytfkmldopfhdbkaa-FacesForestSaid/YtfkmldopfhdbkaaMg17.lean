import Derived.Test.YtfkmldopfhdbkaaMg03
import Derived.Test.YtfkmldopfhdbkaaMg13
import Derived.Test.YtfkmldopfhdbkaaMg16
import Derived.Test.YtfkmldopfhdbkaaMg10
import Derived.Test.YtfkmldopfhdbkaaMg09
import Derived.Deep.Matrix
import Derived.SizedLaws
import Derived.Test.YtfkmldopfhdbkaaMg04
/-
  Rotations, pure: turns.
-/
namespace Go.Proofs.Ytfkmldopfhdbkaa
namespace Ro

/-- The list, begun at place a. -/
def turn (l : List Int) (a : Nat) : List Int := l.drop a ++ l.take a

/-- The place of the first least among the first k elements. -/
def at' (l : List Int) : Nat → Nat
  | 0 => 0
  | k + 1 => if l.getD k 0 < l.getD (at' l k) 0 then k else at' l k

/-- Begun at its first least element. -/
def canon1 (l : List Int) : List Int := turn l (at' l l.length)
def canon (ls : List (List Int)) : List (List Int) := ls.map canon1
def mirror (ls : List (List Int)) : List (List Int) := ls.map fun l => canon1 l.reverse

theorem at_lt (l : List Int) : ∀ k, 0 < k → at' l k < k
  | 0, h => by omega
  | k + 1, _ => by
    unfold at'
    split
    · omega
    · by_cases hk : k = 0
      · subst hk; simp [at']
      · have := at_lt l k (by omega)
        omega
theorem at_le (l : List Int) (k : Nat) : at' l k ≤ k := by
  by_cases h : k = 0
  · subst h; simp [at']
  · have := at_lt l k (by omega)
    omega

theorem turn_len (l : List Int) (a : Nat) : (turn l a).length = l.length := by
  unfold turn
  simp
  omega
theorem canon1_len (l : List Int) : (canon1 l).length = l.length := turn_len _ _

/-- Element by element. -/
theorem turn_at {l : List Int} {a i : Nat} (ha : a < l.length) (hi : i < l.length) : (turn l a)[i]? = l[(a + i) % l.length]? := by
  unfold turn
  rw [List.getElem?_append]
  simp only [List.length_drop, List.getElem?_drop, List.getElem?_take]
  by_cases h : i < l.length - a
  · rw [if_pos h, Nat.mod_eq_of_lt (by omega)]
  · rw [if_neg h, if_pos (by omega)]
    have : (a + i) % l.length = i - (l.length - a) := by
      rw [Nat.mod_eq_sub_mod (by omega), Nat.mod_eq_of_lt (by omega)]
      omega
    rw [this]

/-- The first k elements of the turn, as the document makes them. -/
def turnTo (l : List Int) (a : Nat) : Nat → List Int
  | 0 => []
  | k + 1 => turnTo l a k ++ [l.getD ((a + k) % l.length) 0]
theorem turnTo_len (l : List Int) (a : Nat) : ∀ k, (turnTo l a k).length = k
  | 0 => rfl
  | k + 1 => by simp [turnTo, turnTo_len l a k]
theorem turnTo_take {l : List Int} {a : Nat} (ha : a < l.length) : ∀ k, k ≤ l.length → turnTo l a k = (turn l a).take k
  | 0, _ => by simp [turnTo]
  | k + 1, h => by
    have hk : k < l.length := by omega
    have hm : (a + k) % l.length < l.length := Nat.mod_lt _ (by omega)
    have h1 : (turn l a)[k]? = some (l.getD ((a + k) % l.length) 0) := by
      rw [turn_at ha hk, List.getD_eq_getElem?_getD, List.getElem?_eq_getElem hm]
      rfl
    rw [turnTo, turnTo_take ha k (by omega), take_snoc' h1]
theorem turnTo_all {l : List Int} {a : Nat} (ha : a < l.length ∨ (l = [] ∧ a = 0)) : turnTo l a l.length = turn l a := by
  rcases ha with ha | ⟨rfl, rfl⟩
  · rw [turnTo_take ha _ (Nat.le_refl _), List.take_of_length_le (by rw [turn_len]; exact Nat.le_refl _)]
  · rfl

end Ro
end Go.Proofs.Ytfkmldopfhdbkaa

/-
  Faces: the document's first example, as the laws ask of it.
-/
namespace Go.Proofs.Ytfkmldopfhdbkaa
open Go.RowKit Go.Sort

namespace Fa
def es3 : List (Int × Int) := [(0, 1), (0, 2), (1, 2)]
def rot3 : List (List Int) := [[0, 2], [1, 4], [3, 5]]

theorem val3 : Si.Val (3 : Nat) es3 := by
  refine ⟨by decide, by decide, by decide, fun j p hj => ?_, fun j p q hp hq => ?_⟩
  · match j, hj with
    | 0, hj => cases hj; unfold Si.ok; decide
    | 1, hj => cases hj; unfold Si.ok; decide
    | 2, hj => cases hj; unfold Si.ok; decide
  · match j, hp, hq with
    | 0, hp, hq => cases hp; cases hq; unfold Si.lt; decide
    | 1, hp, hq => cases hp; cases hq; unfold Si.lt; decide
theorem valid3 : Si.valid (3 : Int) es3 = true := Si.valid_iff.2 val3
theorem check3 : (Ro.check (3 : Int) es3 rot3).2 = 0 := by
  unfold Ro.check
  rw [if_pos valid3]
  decide
theorem check2 : (Ro.check (3 : Int) es3 [[0, 2], [1, 4]]).2 = 110 := by
  unfold Ro.check
  rw [if_pos valid3]
  decide
theorem all3 : all es3 rot3 = [[0, 4, 3], [1, 2, 5]] := by decide
theorem left3 : left es3 rot3 = [0, 1, 1, 0, 0, 1] := by decide
theorem gz3 : gz 3 es3 rot3 = 0 := by decide
end Fa

theorem es3_at {w : World} {b : Nat} (h : w.heap[b]? = some (.cells #[.int .i64 0, .int .i64 1, .int .i64 0, .int .i64 2, .int .i64 1, .int .i64 2] 56 (0, 0))) : EdgesAt w (some ⟨b, 0, none⟩) Fa.es3 := by
  intro j p hj
  refine ⟨b, 0, rfl, ?_⟩
  match j, hj with
  | 0, hj => cases hj; exact ⟨by simp [World.cell?, h], by simp [World.cell?, h]⟩
  | 1, hj => cases hj; exact ⟨by simp [World.cell?, h], by simp [World.cell?, h]⟩
  | 2, hj => cases hj; exact ⟨by simp [World.cell?, h], by simp [World.cell?, h]⟩

/-- Three lists of two in blocks of their own, told in block g. -/
theorem rws_three {w : World} {g g0 g1 g2 : Nat} {l0 l1 l2 : List Int} (h : w.heap[g]? = some (.cells #[.slice (some ⟨g0, 0, none⟩) 2 2, .slice (some ⟨g1, 0, none⟩) 2 2, .slice (some ⟨g2, 0, none⟩) 2 2] 36 (0, 0)))
    (h0 : IntsBlk w g0 l0) (h1 : IntsBlk w g1 l1) (h2 : IntsBlk w g2 l2) (e0 : l0.length = 2) (e1 : l1.length = 2) (e2 : l2.length = 2) : RwsAt w (some ⟨g, 0, none⟩) [l0, l1, l2] := by
  have c0 : w.cell? ⟨g, 0 + 0, none⟩ = some (.slice (some ⟨g0, 0, none⟩) 2 2) := by simp [World.cell?, h]
  have c1 : w.cell? ⟨g, 0 + 1, none⟩ = some (.slice (some ⟨g1, 0, none⟩) 2 2) := by simp [World.cell?, h]
  have c2 : w.cell? ⟨g, 0 + 2, none⟩ = some (.slice (some ⟨g2, 0, none⟩) 2 2) := by simp [World.cell?, h]
  intro v l hl
  match v, hl with
  | 0, hl => cases hl; rw [e0]; exact ⟨g, 0, _, _, rfl, c0, e0 ▸ h0.lst rfl, by omega, Nat.le_refl _, by omega⟩
  | 1, hl => cases hl; rw [e1]; exact ⟨g, 0, _, _, rfl, c1, e1 ▸ h1.lst rfl, by omega, Nat.le_refl _, by omega⟩
  | 2, hl => cases hl; rw [e2]; exact ⟨g, 0, _, _, rfl, c2, e2 ▸ h2.lst rfl, by omega, Nat.le_refl _, by omega⟩
theorem RwsAt.two {w : World} {xo : Option Addr} {l0 l1 l2 : List Int} (h : RwsAt w xo [l0, l1, l2]) : RwsAt w xo [l0, l1] := fun v l hl => h v l (by
  match v, hl with
  | 0, hl => exact hl
  | 1, hl => exact hl)

/-- Two lists of three. -/
theorem rowsZ_two {w : World} {g g0 g1 B : Nat} {l0 l1 : List Int} (h : w.heap[g]? = some (.cells #[.slice (some ⟨g0, 0, none⟩) 3 3, .slice (some ⟨g1, 0, none⟩) 3 3] 36 (0, 0))) (h0 : IntsBlk w g0 l0) (h1 : IntsBlk w g1 l1) (e0 : l0.length = 3) (e1 : l1.length = 3) (b : B ≤ g) (b0 : B ≤ g0) (b1 : B ≤ g1) (n1 : g0 ≠ g1) (n2 : g0 ≠ g) (n3 : g1 ≠ g) :
    RowsZ w B (.slice (some ⟨g, 0, none⟩) 2 2) [.slice (some ⟨g0, 0, none⟩) 3 3, .slice (some ⟨g1, 0, none⟩) 3 3] [l0, l1] := by
  refine ⟨rfl, ⟨rfl, .inr ⟨g, 2, _, rfl, b, h, Nat.le_refl _, by unfold maxLen; omega, rfl, rfl⟩⟩, fun u x l hx hl => ?_, fun u u' x x' c hne hx hx' hb hb' => ?_, fun u x c hx hb hb' => ?_⟩
  · match u, hx, hl with
    | 0, hx, hl => cases hx; cases hl; exact h0.own b0 e0 (by omega)
    | 1, hx, hl => cases hx; cases hl; exact h1.own b1 e1 (by omega)
  · have k0 : ∀ {y : Value}, y = .slice (some ⟨g0, 0, none⟩) 3 3 → y.ownBlock = some c → g0 = c := fun {y} e h => by subst e; simpa [Value.ownBlock] using h
    have k1 : ∀ {y : Value}, y = .slice (some ⟨g1, 0, none⟩) 3 3 → y.ownBlock = some c → g1 = c := fun {y} e h => by subst e; simpa [Value.ownBlock] using h
    match u, u', hx, hx' with
    | 0, 0, _, _ => exact hne rfl
    | 0, 1, hx, hx' => have a1 := k0 (Option.some.inj hx).symm hb; have a2 := k1 (Option.some.inj hx').symm hb'; omega
    | 1, 0, hx, hx' => have a1 := k1 (Option.some.inj hx).symm hb; have a2 := k0 (Option.some.inj hx').symm hb'; omega
    | 1, 1, _, _ => exact hne rfl
  · have hg : g = c := by simpa [Value.ownBlock] using hb'
    match u, hx with
    | 0, hx => cases hx; have : g0 = c := by simpa [Value.ownBlock] using hb
               omega
    | 1, hx => cases hx; have : g1 = c := by simpa [Value.ownBlock] using hb
               omega

def TriPost (w : World) (e : Ending) (w' : World) : Prop := ∃ b r, e = .returned (.tuple #[.agg #[.int .i64 3, .slice (some ⟨b, 0, none⟩) 3 3], .slice (some ⟨r, 0, none⟩) 3 3]) ∧ EdgesAt w' (some ⟨b, 0, none⟩) Fa.es3 ∧ RwsAt w' (some ⟨r, 0, none⟩) Fa.rot3 ∧ Below w.heap.size w w'

set_option maxRecDepth 100000 in
set_option maxHeartbeats 4000000 in
theorem tri_any (w : World) : Calls Try.prog 30 #[] w (TriPost w) := by
  go_enter Try.func30, Try.ntmps30
  go_wp2
  refine bodyPost_ret (v := .tuple #[.agg #[.int .i64 3, .slice (some ⟨w.heap.size + 1, 0, none⟩) 3 3], .slice (some ⟨w.heap.size + 1 + 1 + 1 + 1 + 1, 0, none⟩) 3 3]) (by simp [results, Try.results30, go_sem]) rfl ?_
  refine ⟨w.heap.size + 1, w.heap.size + 1 + 1 + 1 + 1 + 1, rfl, es3_at ?_, rws_three (alloc_at (by simp)) (l0 := [0, 2]) (l1 := [1, 4]) (l2 := [3, 5]) ?_ ?_ ?_ rfl rfl rfl, ?_⟩
  all_goals (try unfold IntsBlk)
  all_goals repeat (first | exact alloc_at (by simp) | refine (Below.heap_alloc _ _ _ (by first | (simp; done) | (simp; omega))).trans ?_ | exact Below.refl _ _ | refine Below.alloc ?_ (by first | (simp; done) | (simp; omega)) _)

/-- What the example's graph is. -/
structure Ex (w : World) (G b r : Nat) : Prop where
  box : w.heap[G]? = some (.cells #[.int .i64 3, .slice (some ⟨b, 0, none⟩) 3 3] 24 (0, 0))
  edges : EdgesAt w (some ⟨b, 0, none⟩) Fa.es3
  rows : RwsAt w (some ⟨r, 0, none⟩) Fa.rot3
theorem Ex.later {w w' : World} {G b r : Nat} (h : Ex w G b r) (hb : Below w.heap.size w w') : Ex w' G b r :=
  ⟨(hb.block _ (lt_of_block h.box)).trans h.box, h.edges.later hb, h.rows.later hb⟩
theorem Ex.cells {w : World} {G b r : Nat} (h : Ex w G b r) : w.cell? ⟨G, 0, none⟩ = some (.int .i64 3) ∧ w.cell? ⟨G, 1, none⟩ = some (.slice (some ⟨b, 0, none⟩) 3 3) := by
  obtain ⟨x0, x1, -⟩ := pair_cells h.box
  exact ⟨x0, x1⟩

theorem ex_of {w : World} {G b r : Nat} (h : Ex w G b r) : Calls Try.prog 10 #[.agg #[.int .i64 3, .slice (some ⟨b, 0, none⟩) 3 3], .slice (some ⟨r, 0, none⟩) 3 3] w fun e w' => ∃ o c vs, e = .returned (.tuple #[.slice o 2 c, .int .i64 0]) ∧ RowsZ w' w.heap.size (.slice o 2 c) vs [[0, 4, 3], [1, 2, 5]] ∧ Below w.heap.size w w' := by
  refine (fof_any 3 (some ⟨b, 0, none⟩) 3 Fa.es3 (some ⟨r, 0, none⟩) 3 Fa.rot3 w h.edges (by decide) h.rows).mono ?_
  rintro e w' ⟨hb, ⟨h0, -⟩ | ⟨-, v, vs, rfl, hr⟩⟩
  · exact absurd Fa.check3 h0
  · rw [Fa.all3] at hr
    obtain ⟨o, c, rfl⟩ := row_shape hr
    exact ⟨o, c, vs, rfl, hr, hb⟩
theorem ex_bad {w : World} {G b r : Nat} (h : Ex w G b r) (c : Nat) : Calls Try.prog 10 #[.agg #[.int .i64 3, .slice (some ⟨b, 0, none⟩) 3 3], .slice (some ⟨r, 0, none⟩) 2 c] w fun e w' => e = .returned (.tuple #[.slice none 0 0, .int .i64 110]) ∧ Below w.heap.size w w' := by
  refine (fof_any 3 (some ⟨b, 0, none⟩) 3 Fa.es3 (some ⟨r, 0, none⟩) c [[0, 2], [1, 4]] w h.edges (by decide) (RwsAt.two (l2 := [3, 5]) h.rows)).mono ?_
  rintro e w' ⟨hb, ⟨-, rfl⟩ | ⟨h0, -⟩⟩
  · rw [Fa.check2]
    exact ⟨rfl, hb⟩
  · rw [Fa.check2] at h0
    exact absurd h0 (by decide)
theorem ex_left {w : World} {G b r : Nat} (h : Ex w G b r) : Calls Try.prog 15 #[.agg #[.int .i64 3, .slice (some ⟨b, 0, none⟩) 3 3], .slice (some ⟨r, 0, none⟩) 3 3] w fun e w' => ∃ o c, e = .returned (.tuple #[.slice o 6 c, .int .i64 0]) ∧ OwnZ w' w.heap.size (.slice o 6 c) [0, 1, 1, 0, 0, 1] ∧ Below w.heap.size w w' := by
  refine (fleft_any 3 (some ⟨b, 0, none⟩) 3 Fa.es3 (some ⟨r, 0, none⟩) 3 Fa.rot3 w h.edges (by decide) h.rows).mono ?_
  rintro e w' ⟨hb, ⟨h0, -⟩ | ⟨-, v, rfl, hr⟩⟩
  · exact absurd Fa.check3 h0
  · rw [Fa.left3] at hr
    obtain ⟨o, c, rfl, -⟩ := hr.form
    exact ⟨o, c, rfl, hr, hb⟩
theorem ex_genus {w : World} {G b r : Nat} (h : Ex w G b r) : Calls Try.prog 18 #[.agg #[.int .i64 3, .slice (some ⟨b, 0, none⟩) 3 3], .slice (some ⟨r, 0, none⟩) 3 3] w fun e w' => e = .returned (.tuple #[.int .i64 0, .int .i64 0]) ∧ Below w.heap.size w w' := by
  refine (fgenus_any 3 (some ⟨b, 0, none⟩) 3 Fa.es3 (some ⟨r, 0, none⟩) 3 Fa.rot3 w h.edges (by decide) h.rows).mono ?_
  rintro e w' ⟨rfl, hb⟩
  refine ⟨?_, hb⟩
  have e1 : (3 : Int).toNat = 3 := rfl
  rw [Fa.check3, if_pos rfl, e1, Fa.gz3]
theorem ex_flat {w : World} {G b r : Nat} (h : Ex w G b r) : Calls Try.prog 20 #[.agg #[.int .i64 3, .slice (some ⟨b, 0, none⟩) 3 3], .slice (some ⟨r, 0, none⟩) 3 3] w fun e w' => e = .returned (.bool true) ∧ Below w.heap.size w w' := by
  refine (fflat_any 3 (some ⟨b, 0, none⟩) 3 Fa.es3 (some ⟨r, 0, none⟩) 3 Fa.rot3 w h.edges (by decide) h.rows).mono ?_
  rintro e w' ⟨rfl, hb⟩
  refine ⟨?_, hb⟩
  have e1 : (3 : Int).toNat = 3 := rfl
  rw [Fa.check3, e1, Fa.gz3]
  rfl

set_option maxRecDepth 100000 in
set_option maxHeartbeats 16000000 in
theorem wakes12_any (w : World) : Calls Try.prog 9 #[] w fun e w' => e = .returned (.bool true) ∧ Below w.heap.size w w' := by
  have HT := Nu.hid (tri_any w)
  go_enter Try.func9, Try.ntmps9
  go_wp2_with (go_at_call 30; refine HT.out.mono ?_; rintro e w1 ⟨b, r, rfl, he, hx, hb1⟩; refine Hid.out ?_)
  refine Nu.hid ?_
  obtain ⟨W1, hW1⟩ : ∃ W1, W1 = w1.alloc (.cells #[.int .i64 3, .slice (some ⟨b, 0, none⟩) 3 3] 24) := ⟨_, rfl⟩
  have hb11 : Below w1.heap.size w1 W1 := by rw [hW1]; exact (Below.refl _ _).alloc (Nat.le_refl _) _
  have hex1 : Ex W1 w1.heap.size b r := ⟨by rw [hW1]; exact heap_alloc_new w1 _, he.later hb11, hx.later hb11⟩
  have HX1 := Nu.hid hex1
  have HB1 := Nu.hid (hb1.trans (hb11.mono hb1.size))
  have HW1 := Nu.hid hW1
  have HC1 := Nu.hid (ex_of hex1)
  obtain ⟨x0, x1⟩ := hex1.cells
  rw [hW1] at x0 x1
  have hb10 := hb1.size
  clear he hx hb1 hb11 hex1 hW1
  go_wp2_with (go_at_call 10; rw [← HW1.out]; refine HC1.out.mono ?_; rintro e w2 ⟨o2, c2, vs2, rfl, hr2, hb2⟩; refine Hid.out ?_)
  refine Nu.hid ?_
  have HX2 := Nu.hid (HX1.out.later hb2)
  have HB2 := Nu.hid (HB1.out.trans (hb2.mono HB1.out.size))
  have HR2 := Nu.hid hr2
  have HC2 := Nu.hid (ex_left HX2.out)
  clear x0 x1
  obtain ⟨x0, x1⟩ := HX2.out.cells
  clear hb2 hr2 HC1
  go_wp2_with (go_at_call 15; refine HC2.out.mono ?_; rintro e w3 ⟨o3, c3, rfl, ho3, hb3⟩; refine Hid.out ?_)
  refine Nu.hid ?_
  have HX3 := Nu.hid (HX2.out.later hb3)
  have HB3 := Nu.hid (HB2.out.trans (hb3.mono HB2.out.size))
  have HR3 := Nu.hid (HR2.out.later hb3)
  have HO3 := Nu.hid ho3
  have HC3 := Nu.hid (ex_genus HX3.out)
  clear x0 x1
  obtain ⟨x0, x1⟩ := HX3.out.cells
  clear hb3 ho3 HC2
  go_wp2_with (go_at_call 18; refine HC3.out.mono ?_; rintro e w4 ⟨rfl, hb4⟩; refine Hid.out ?_)
  refine Nu.hid ?_
  have HX4 := Nu.hid (HX3.out.later hb4)
  have HB4 := Nu.hid (HB3.out.trans (hb4.mono HB3.out.size))
  have HR4 := Nu.hid (HR3.out.later hb4)
  have HO4 := Nu.hid (HO3.out.later hb4)
  have hd4 : Below w4.heap.size w4 w4.drew := (Below.refl _ _).drew
  have HC4 := Nu.hid (fun c => ex_bad (HX4.out.later hd4) c)
  clear x0 x1
  have y4 := HX4.out.cells
  have y4d := (HX4.out.later hd4).cells
  clear hb4 HC3
  go_wp2_with fail
  go_region_held3 (fun U => U.cell? ⟨w1.heap.size, 0, none⟩ = some (.int .i64 3) ∧ U.cell? ⟨w1.heap.size, 1, none⟩ = some (.slice (some ⟨b, 0, none⟩) 3 3))
    (first | exact y4 | exact y4d | exact y5)
    ((go_at_call 10; refine (HC4.out _).mono ?_; rintro e w5 ⟨rfl, hb5⟩; have hb45 := hd4.trans hb5; have y5 := (HX4.out.later hb45).cells))
  have HX5 := Nu.hid (HX4.out.later hb45)
  have HB5 := Nu.hid (HB4.out.trans (hb45.mono HB4.out.size))
  have HR5 := Nu.hid (HR4.out.later hb45)
  have HO5 := Nu.hid (HO4.out.later hb45)
  have HC5 := Nu.hid (ex_flat HX5.out)
  clear y4 y4d y5 hb5 hb45 HC4 hd4
  obtain ⟨x0, x1⟩ := HX5.out.cells
  go_wp2_with (go_at_call 20; refine HC5.out.mono ?_; rintro e w6 ⟨rfl, hb6⟩; refine Hid.out ?_)
  refine Nu.hid ?_
  have HB6 := Nu.hid (HB5.out.trans (hb6.mono HB5.out.size))
  have HR6 := Nu.hid (HR5.out.later hb6)
  have HO6 := Nu.hid (HO5.out.later hb6)
  clear x0 x1 hb6 HC5
  obtain ⟨W7, hW7⟩ : ∃ W7, W7 = ((w6.alloc (.cells #[.int .i64 0, .int .i64 4, .int .i64 3] 3)).alloc (.cells #[.int .i64 1, .int .i64 2, .int .i64 5] 3)).alloc (.cells #[.slice (some ⟨w6.heap.size, 0, none⟩) 3 3, .slice (some ⟨w6.heap.size + 1, 0, none⟩) 3 3] 36) := ⟨_, rfl⟩
  have hb67 : Below w6.heap.size w6 W7 := by
    rw [hW7]
    repeat (first | exact Below.refl _ _ | refine Below.alloc ?_ (by first | (simp; done) | (simp; omega)) _)
  have hz7 : RowsZ W7 w6.heap.size (.slice (some ⟨w6.heap.size + 1 + 1, 0, none⟩) 2 2) [.slice (some ⟨w6.heap.size, 0, none⟩) 3 3, .slice (some ⟨w6.heap.size + 1, 0, none⟩) 3 3] [[0, 4, 3], [1, 2, 5]] := by
    rw [hW7]
    refine rowsZ_two (alloc_at (by simp)) ?_ ?_ rfl rfl (by omega) (by omega) (by omega) (by omega) (by omega) (by omega)
    all_goals unfold IntsBlk
    all_goals repeat (first | exact alloc_at (by simp) | refine (Below.heap_alloc _ _ _ (by first | (simp; done) | (simp; omega))).trans ?_)
  have HC7 := Nu.hid (samelists3_any _ _ _ _ _ _ _ W7 (HR6.out.later hb67) hz7 (by decide) (by decide))
  have HB7 := Nu.hid (HB6.out.trans (hb67.mono HB6.out.size))
  have HO7 := Nu.hid (HO6.out.later hb67)
  have HW7 := Nu.hid hW7
  clear hb67 hz7 hW7
  go_wp2_with (go_at_call 14; rw [← HW7.out]; refine HC7.out.mono ?_; rintro e w8 ⟨rfl, hb8⟩; refine Hid.out ?_)
  refine Nu.hid ?_
  have HB8 := Nu.hid (HB7.out.trans (hb8.mono HB7.out.size))
  have HO8 := Nu.hid (HO7.out.later hb8)
  clear hb8 HC7 HW7
  obtain ⟨W9, hW9⟩ : ∃ W9, W9 = w8.alloc (.cells #[.int .i64 0, .int .i64 1, .int .i64 1, .int .i64 0, .int .i64 0, .int .i64 1] 3) := ⟨_, rfl⟩
  have hb89 : Below w8.heap.size w8 W9 := by rw [hW9]; exact (Below.refl _ _).alloc (Nat.le_refl _) _
  have hi9 : IntsBlk W9 w8.heap.size [0, 1, 1, 0, 0, 1] := by rw [hW9]; exact heap_alloc_new w8 _
  obtain ⟨o9, c9, e9, ha9, -⟩ := (HO8.out.later hb89).form
  cases e9
  have HC9 := Nu.hid (sameints_any _ (some ⟨w8.heap.size, 0, none⟩) c3 6 6 6 _ [0, 1, 1, 0, 0, 1] W9 rfl rfl ha9 (fun j x hj => ⟨w8.heap.size, 0, rfl, by rw [Nat.zero_add]; exact hi9.cell hj⟩) (by decide))
  have HB9 := Nu.hid (HB8.out.trans (hb89.mono HB8.out.size))
  have HW9 := Nu.hid hW9
  clear hb89 hi9 hW9 ha9
  go_wp2_with (go_at_call 17; rw [← HW9.out]; refine HC9.out.mono ?_; rintro e w10 ⟨rfl, hb10⟩; refine Hid.out ?_)
  refine Nu.hid ?_
  have HBX := Nu.hid (HB9.out.trans (hb10.mono HB9.out.size))
  clear hb10
  go_wp2
  go_ret
  exact ⟨rfl, HBX.out⟩

end Go.Proofs.Ytfkmldopfhdbkaa

/-
  Lists of lists that came in.
-/
namespace Go.Proofs.Ytfkmldopfhdbkaa
open Go.ChangeShapes Go.WideShapes Go.ChangeAt Go.RowKit Go.Deep

theorem cellsRow : Try.prog.cellsOf 36 = 1 := by kernel_rfl
theorem bytesRow : Try.prog.bytesOf 36 = 24 := by kernel_rfl

theorem weights_all_mem {H : Type} {P : Program} {e : TypeId} {d : DataW H} {l : List (DataW H)} (h : d ∈ l) : ∀ n ∈ d.weights P e, n ∈ DataW.weightsAll P e l := by
  induction l with
  | nil => cases h
  | cons x r ih =>
    intro n hn
    simp only [DataW.weightsAll, List.mem_append]
    rcases List.mem_cons.1 h with rfl | h
    · exact .inl hn
    · exact .inr (ih h n hn)

/-- The reach of a row inside. -/
theorem sized_row {H : Type} {P : Program} {ts : List TypeId} {ds : List (DataW H)} (h : (DataW.weightsEach P ts ds).all (· ≤ reachBytes) = true) {j : Nat} {t e q : TypeId} {elems spare e' sp' : List (DataW H)}
    (ht : ts[j]? = some t) (hd : ds[j]? = some (.slice elems spare)) (hu : P.underlying t = some (.slice e)) (hu2 : P.underlying e = some (.slice q)) (hx : DataW.slice e' sp' ∈ elems) : (e'.length + sp'.length) * P.bytesOf q ≤ reachBytes := by
  refine of_decide_eq_true (List.all_eq_true.1 h _ (DataW.weights_mem_each ht hd _ ?_))
  simp only [DataW.weights, hu, List.mem_cons, List.mem_append]
  exact .inr (.inl (weights_all_mem hx _ (by simp [DataW.weights, hu2])))

/-- What is known of lists that came in. -/
structure RowsIn (w : World) (ao : Option Addr) (len cap : Nat) (ls : List (List Int)) : Prop where
  hlen : ls.length = len
  hat : RwsAt w ao ls
  hsm : len * 24 ≤ 140737488351232

theorem rows_of_trod {H : Type} {enc : TypeId × Value → H} {W : World} {t : TypeId} {a : Option Addr} {len cap : Nat} {d : DataW H} {p : List MemPlace} {ts : List TypeId} {ds : List (DataW H)} {j : Nat}
    (ht : Try.prog.underlying t = some (.slice 36)) (h : DataW.Trod enc Try.prog W 0 (fun _ => true) true t (.slice a len cap) d p) (hsz : (DataW.weightsEach Try.prog ts ds).all (· ≤ reachBytes) = true) (hts : ts[j]? = some t) (hds : ds[j]? = some d) :
    ∃ ls, RowsIn W a len cap ls := by
  obtain ⟨fuel, hf⟩ := h
  rcases open_int_rows ht Try.underlying36 Try.underlying3 cellsRow cellsInt hf with ⟨hcs, _⟩ | ⟨x, l, c, A, L, C, Z, hcs, _, hl, hm, hx, hrow⟩
  · simp [Value.cells] at hcs
    obtain ⟨rfl, rfl, rfl⟩ := hcs
    exact ⟨[], rfl, RwsAt.nil _ _, by omega⟩
  · simp [Value.cells] at hcs
    obtain ⟨rfl, rfl, rfl⟩ := hcs
    simp only [Prod.mk.injEq] at hx
    obtain ⟨rfl, _⟩ := hx
    have hw := sized_slice hsz hts hds ht
    rw [bytesRow] at hw
    simp only [List.length_map, List.length_range, reachBytes] at hw
    refine ⟨(List.range len).map fun r => (Z r).take (L r), by simp, fun v m hvm => ?_, by omega⟩
    have hv : v < len := by
      have := (List.getElem?_eq_some_iff.1 hvm).1
      simpa using this
    rw [List.getElem?_map, List.getElem?_range hv] at hvm
    obtain rfl := Option.some.inj hvm
    obtain ⟨hc, h1, h2, h3, h4, h5, h6⟩ := hrow v (by omega)
    have hlen : ((Z v).take (L v)).length = L v := by rw [List.length_take]; omega
    have hC : C v ≤ 17592186043904 := by
      cases hA : A v with
      | none => have := h5 hA; omega
      | some y =>
        have hmem : intRow .i64 (A v) (L v) (Z v) ∈ (List.range len).map fun r => (intRow .i64 (A r) (L r) (Z r) : DataW H) := List.mem_map.2 ⟨v, List.mem_range.2 hv, rfl⟩
        rw [hA] at hmem
        have := sized_row hsz hts hds ht Try.underlying36 hmem
        rw [bytesInt] at this
        simp only [lits, List.length_map, List.length_take, List.length_drop, reachBytes] at this
        omega
    obtain ⟨xb, xo, sp⟩ := x
    have hsp : sp = none := by simpa [Addr.add] using World.cell?_spot (hrow 0 (by omega)).1
    subst hsp
    have e : ((⟨xb, xo, none⟩ : Addr).add v) = ⟨xb, xo + v, none⟩ := by
      by_cases h0 : v = 0 <;> simp [Addr.add, h0]
    rw [e] at hc
    refine ⟨xb, xo, A v, C v, rfl, by rw [hlen]; exact hc, ⟨rfl, fun i z hz => ?_, fun hA => ?_⟩, by rw [hlen]; omega, by rw [hlen]; exact h1, by omega⟩
    · rw [List.getElem?_take] at hz
      split at hz
      · rename_i hiL
        obtain ⟨y, hA⟩ : ∃ y, A v = some y := by
          cases hA : A v with
          | none => have := h5 hA; omega
          | some y => exact ⟨y, rfl⟩
        have hci := (h6 y hA).2 i (by omega)
        rw [List.getD_eq_getElem?_getD, hz] at hci
        obtain ⟨yb, yo, ysp⟩ := y
        have hc0 := (h6 _ hA).2 0 (by omega)
        have hsp : ysp = none := by simpa [Addr.add] using World.cell?_spot hc0
        subst hsp
        have e2 : ((⟨yb, yo, none⟩ : Addr).add i) = ⟨yb, yo + i, none⟩ := by
          by_cases h0 : i = 0 <;> simp [Addr.add, h0]
        rw [e2] at hci
        exact ⟨yb, yo, hA, hci⟩
      · cases hz
    · have := h5 hA
      rw [hlen]
      omega

end Go.Proofs.Ytfkmldopfhdbkaa

/-
  Numbers of 64 bits; how many cells an edge and an int take.
-/
namespace Go.Proofs.Ytfkmldopfhdbkaa
open Go.RowKit

theorem cellsEdge : Try.prog.cellsOf 56 = 2 := by kernel_rfl
theorem cellsIntK : Try.prog.cellsOf 3 = 1 := by kernel_rfl
/-- Both numbers are of 64 bits. -/
def In64 (e : Int × Int) : Prop := (-9223372036854775808 ≤ e.1 ∧ e.1 ≤ 9223372036854775807) ∧ -9223372036854775808 ≤ e.2 ∧ e.2 ≤ 9223372036854775807
theorem wf64 {x : Int} (h : -9223372036854775808 ≤ x ∧ x ≤ 9223372036854775807) : (Lit.int .i64 x).wf = true := WalkArith.wf_i64 (by omega)

end Go.Proofs.Ytfkmldopfhdbkaa
