import Derived.Test.YtalfpbalekbinaaGreatMg28
import Derived.Test.YtalfpbalekbinaaGreatMg00
import Derived.Deep.QuietTactic
import Derived.BigQuiet
/-
  The document's example, reckoned.
-/
namespace Go.Proofs.YtalfpbalekbinaaGreat
namespace Bl
open Df Lo

def ex9 : List (Int × Int) := [(0, 1), (0, 2), (1, 2), (2, 3), (3, 4), (3, 5), (4, 5)]
def tab9 : Nat → Nat
  | 3 => 3
  | 4 => 4
  | 5 => 4
  | 6 => 4
  | _ => 0
theorem ex9_val : Si.Val (7 : Nat) ex9 := by
  refine ⟨by decide, by decide, by decide, fun j p hj => ?_, fun j p q hp hq => ?_⟩
  · match j, hj with
    | 0, hj | 1, hj | 2, hj | 3, hj | 4, hj | 5, hj | 6, hj => cases hj; unfold Si.ok; decide
  · match j, hp, hq with
    | 0, hp, hq | 1, hp, hq | 2, hp, hq | 3, hp, hq | 4, hp, hq | 5, hp, hq => cases hp; cases hq; unfold Si.lt; decide
theorem seven {i : Nat} (h : i < ex9.length) : i = 0 ∨ i = 1 ∨ i = 2 ∨ i = 3 ∨ i = 4 ∨ i = 5 ∨ i = 6 := by
  have : ex9.length = 7 := rfl
  omega
def js9 : List (Int × Int) := [(0, 1), (0, 2), (1, 2), (4, 5), (4, 6), (5, 6)]

theorem norm9 : Co.Norm ex9.length tab9 := by
  constructor <;> intro x hx <;> rcases seven hx with rfl | rfl | rfl | rfl | rfl | rfl | rfl <;> decide
theorem gen9 : Co.Gen ex9.length js9 tab9 := by
  refine ⟨norm9, fun j hj _ _ => ?_, fun f hf x hx => ?_⟩
  · simp only [js9, List.mem_cons, List.not_mem_nil, or_false] at hj
    rcases hj with rfl | rfl | rfl | rfl | rfl | rfl <;> decide
  · have h1 : f 0 = f 1 := hf (0, 1) (by simp [js9]) ⟨by decide, by decide⟩ ⟨by decide, by decide⟩
    have h2 : f 0 = f 2 := hf (0, 2) (by simp [js9]) ⟨by decide, by decide⟩ ⟨by decide, by decide⟩
    have h3 : f 4 = f 5 := hf (4, 5) (by simp [js9]) ⟨by decide, by decide⟩ ⟨by decide, by decide⟩
    have h4 : f 4 = f 6 := hf (4, 6) (by simp [js9]) ⟨by decide, by decide⟩ ⟨by decide, by decide⟩
    rcases seven hx with rfl | rfl | rfl | rfl | rfl | rfl | rfl
    · rfl
    · exact h1
    · exact h2
    · rfl
    · rfl
    · exact h3
    · exact h4
/-- What hangs together without a vertex. -/
theorem pairs9 {i k : Nat} (hi : i < ex9.length) (hk : k < ex9.length) (hj : ((i : Int), (k : Int)) ∈ js9) : ∃ u, PairE ex9 u i k := by
  simp only [js9, List.mem_cons, List.not_mem_nil, or_false, Prod.mk.injEq] at hj
  have hc : (i = 0 ∧ k = 1) ∨ (i = 0 ∧ k = 2) ∨ (i = 1 ∧ k = 2) ∨ (i = 4 ∧ k = 5) ∨ (i = 4 ∧ k = 6) ∨ (i = 5 ∧ k = 6) := by omega
  rcases hc with ⟨rfl, rfl⟩ | ⟨rfl, rfl⟩ | ⟨rfl, rfl⟩ | ⟨rfl, rfl⟩ | ⟨rfl, rfl⟩ | ⟨rfl, rfl⟩
  · exact ⟨0, (0, 1), (0, 2), rfl, rfl, .inl rfl, .inl rfl, ConnE.edge (a := 1) (b := 2) (by decide) (by decide) (by decide)⟩
  · exact ⟨1, (0, 1), (1, 2), rfl, rfl, .inr rfl, .inl rfl, ConnE.edge (a := 0) (b := 2) (by decide) (by decide) (by decide)⟩
  · exact ⟨2, (0, 2), (1, 2), rfl, rfl, .inr rfl, .inr rfl, ConnE.edge (a := 0) (b := 1) (by decide) (by decide) (by decide)⟩
  · exact ⟨3, (3, 4), (3, 5), rfl, rfl, .inl rfl, .inl rfl, ConnE.edge (a := 4) (b := 5) (by decide) (by decide) (by decide)⟩
  · exact ⟨4, (3, 4), (4, 5), rfl, rfl, .inr rfl, .inl rfl, ConnE.edge (a := 3) (b := 5) (by decide) (by decide) (by decide)⟩
  · exact ⟨5, (3, 5), (4, 5), rfl, rfl, .inr rfl, .inr rfl, ConnE.edge (a := 3) (b := 4) (by decide) (by decide) (by decide)⟩
theorem shut2 : ShutE ex9 2 (fun x => 3 ≤ x) := fun a b hab h1 h2 => by
  simp only [ex9, List.mem_cons, List.not_mem_nil, or_false, Prod.mk.injEq] at hab
  omega
theorem shut3 : ShutE ex9 3 (fun x => 4 ≤ x) := fun a b hab h1 h2 => by
  simp only [ex9, List.mem_cons, List.not_mem_nil, or_false, Prod.mk.injEq] at hab
  omega
theorem apart9 {i k u : Nat} (hik : i < k) (hk : k < ex9.length) (hp : PairE ex9 u i k) : ((i : Int), (k : Int)) ∈ js9 := by
  obtain ⟨p, q, hp, hq, h1, h2, h3⟩ := hp
  have hi : i < ex9.length := by omega
  rcases seven hi with rfl | rfl | rfl | rfl | rfl | rfl | rfl <;> rcases seven hk with rfl | rfl | rfl | rfl | rfl | rfl | rfl
  all_goals first
    | (exfalso; omega)
    | decide
    | skip
  all_goals
    obtain rfl := Option.some.inj hp
    obtain rfl := Option.some.inj hq
    dsimp only at h1 h2
    exfalso
    first
      | omega
      | (obtain rfl : u = 2 := by omega
         have := h3 _ shut2
         revert this
         decide)
      | (obtain rfl : u = 3 := by omega
         have := h3 _ shut3
         revert this
         decide)

theorem mB_ex {s : St} (h : VF 7 ex9 s) {e : Nat} (he : e < ex9.length) : tab9 e = mB ex9 s e :=
  mB_one norm9 (fun _ _ hi hk => gen_blocks ex9_val h gen9 (fun a b ha hb hab => by
    obtain ⟨u, hp⟩ := pairs9 ha hb hab
    exact ⟨u, (pairE_iff ex9_val h ha hb).1 hp⟩) (fun a b hab hb hp => by
    obtain ⟨u, hp⟩ := hp
    exact apart9 hab hb ((pairE_iff ex9_val h (by omega) hb).2 hp)) hi hk) he

section
variable {es : List (Int × Int)} {f : Nat → Nat}
def hitC (es : List (Int × Int)) (f : Nat → Nat) (x : Int) (k : Nat) : Bool := (List.range es.length).any fun i => decide (f i = k) && (decide ((es.getD i (0, 0)).1 = x) || decide ((es.getD i (0, 0)).2 = x))
open Classical in
theorem hitB_eq (x : Int) (k : Nat) : hitB es f x k es.length = hitC es f x k := by
  rw [Bool.eq_iff_iff]
  unfold hitB hitC hitTo
  rw [decide_eq_true_iff, List.any_eq_true]
  constructor
  · rintro ⟨i, p, h1, h2, h3, h4⟩
    refine ⟨i, List.mem_range.2 h1, ?_⟩
    rw [List.getD_eq_getElem?_getD, h2]
    simp [h3, h4]
  · rintro ⟨i, h1, h2⟩
    have h1 := List.mem_range.1 h1
    obtain ⟨p, hp⟩ := edge_of (es := es) h1
    rw [List.getD_eq_getElem?_getD, hp] at h2
    simp at h2
    exact ⟨i, p, h1, hp, h2⟩
def loneC (f : Nat → Nat) (i E : Nat) : Bool := (List.range E).all fun k => decide (k = i) || decide (f k ≠ f i)
open Classical in
theorem lone_eq (i E : Nat) : lone f i E = loneC f i E := by
  rw [Bool.eq_iff_iff]
  unfold lone loneC
  rw [decide_eq_true_iff, List.all_eq_true]
  unfold Lone
  constructor
  · intro h k hk
    by_cases e : k = i
    · simp [e]
    · simp [h k (List.mem_range.1 hk) e]
  · intro h k hk e
    have := h k (List.mem_range.2 hk)
    simpa [e] using this
end

section
variable {s : St} (h : VF 7 ex9 s)
include h
theorem num9 {e : Nat} (he : e < ex9.length) : numB (mB ex9 s) e = numB tab9 e := (numB_congr mB_norm (fun _ hi => mB_ex h hi) he).symm
theorem cnt9 : cntB (mB ex9 s) ex9.length = 3 := (cntB_congr fun _ hi => (mB_ex h hi).symm).trans (by decide)
theorem nums9 : nums ex9.length (numB (mB ex9 s)) = [0, 0, 0, 1, 2, 2, 2] := (nums_congr fun _ hi => num9 h hi).trans (by decide)
theorem cuts9 : cutsTo ex9 (numB (mB ex9 s)) (cntB (mB ex9 s) ex9.length) 7 = [2, 3] := by
  rw [cnt9 h, cutsTo_congr (fun _ hi => num9 h hi)]
  unfold cutsTo inB
  simp only [hitB_eq]
  decide
theorem br9 : brTo (numB (mB ex9 s)) ex9.length ex9.length = [3] := by
  rw [brTo_congr (fun _ hi => num9 h hi) _ (Nat.le_refl _)]
  unfold brTo
  simp only [lone_eq]
  decide
theorem vs9 : vsTo ex9 (numB (mB ex9 s)) 2 7 = [3, 4, 5] := by
  rw [vsTo_congr (fun _ hi => num9 h hi)]
  unfold vsTo
  simp only [hitB_eq]
  decide
theorem bk9 : bkTo ex9 (numB (mB ex9 s)) [3, 4, 5] 2 ex9.length = [(0, 1), (0, 2), (1, 2)] := by
  rw [bkTo_congr (fun _ hi => num9 h hi)]
  decide
end
end Bl
end Go.Proofs.YtalfpbalekbinaaGreat

/-
  The document's own SameInts.
-/
namespace Go.Proofs.YtalfpbalekbinaaGreat
open Go.RowKit

set_option maxRecDepth 100000 in
set_option maxHeartbeats 4000000 in
theorem sameints_any (ao bo : Option Addr) (ca cb n m : Nat) (l l' : List Int) (w : World) (hn : l.length = n) (hm : l'.length = m) (ha : IntsAt w ao l) (hb : IntsAt w bo l') (hl : n ≤ 4611686018427387904) :
    Calls Tryz.prog 16 #[.slice ao n ca, .slice bo m cb] w fun e w' => e = .returned (.bool (decide (l = l'))) ∧ Below w.heap.size w w' := by
  have HA := Nu.hid ha
  have HB := Nu.hid hb
  have HN := Nu.hid hn
  have HM := Nu.hid hm
  clear ha hb
  by_cases hll : n = m
  · have j1 : ((n : Int) != (m : Int)) = false := by simp [hll]
    have HLL := Nu.hid hll
    have hnm : (n : Int) = (m : Int) := by omega
    clear hll hn hm
    go_enter Tryz.func16, Tryz.ntmps16
    have HNM := Nu.hid hnm
    clear hnm
    go_wp2
    go_loopw [5] (fun c wr => ∃ k : Nat, k ≤ n ∧ c = .int .i64 k ∧ (∀ j, j < k → l[j]? = l'[j]?) ∧ Below w.heap.size w wr) (fun c _ => n - (intOf c).toNat)
    case atStart => exact ⟨0, Nat.zero_le _, rfl, fun j h => by omega, Below.refl _ _⟩
    case round =>
      obtain ⟨k, hk, rfl, hsame, hbw⟩ := hrel
      have HSAME := Nu.hid hsame
      have HBW := Nu.hid hbw
      clear hsame
      by_cases hlt : k < n
      · have hlti : (k : Int) < (n : Int) := by omega
        have hk0 : (0 : Int) ≤ (k : Int) := by omega
        have hlm : (k : Int) < (m : Int) := by have := HNM.out; omega
        obtain ⟨x, hx⟩ : ∃ x, l[k]? = some x := ⟨_, List.getElem?_eq_getElem (by have := HN.out; omega)⟩
        obtain ⟨y, hy⟩ : ∃ y, l'[k]? = some y := ⟨_, List.getElem?_eq_getElem (by have := HM.out; omega)⟩
        obtain ⟨b, o, rfl, c0⟩ := (HA.out.later hbw) k x hx
        obtain ⟨b', o', rfl, d0⟩ := (HB.out.later hbw) k y hy
        have hbl : b < wr.heap.size := block_lt_of_cell c0
        have hbl' : b' < wr.heap.size := block_lt_of_cell d0
        have HX := Nu.hid hx
        have HY := Nu.hid hy
        clear hx hy hbw
        by_cases e1 : x = y
        · have t1 : (x != y) = false := by simp [e1]
          have HXY := Nu.hid e1
          clear e1
          go_wp2_with fail
          go_quiet (fail)
          go_wp2
          go_roundw
          case rel =>
            refine ⟨k + 1, by omega, by go_num, fun j hj => ?_, below_drewN HBW.out _⟩
            by_cases hjk : j = k
            · subst hjk; rw [HX.out, HY.out, HXY.out]
            · exact HSAME.out j (by omega)
          case measure => simp [intOf]; omega
        · have t1 : (x != y) = true := by simp [e1]
          have hv : decide (l = l') = false := by
            simp only [decide_eq_false_iff_not]
            intro h
            rw [h, HY.out] at HX
            cases HX.out
            exact e1 rfl
          have HV := Nu.hid hv
          clear hv
          go_wp2_with fail
          go_quiet (fail)
          go_wp2
          go_ret
          exact ⟨by rw [HV.out]; rfl, below_drewN HBW.out _⟩
      · have hd : ¬ ((k : Int) < (n : Int)) := by omega
        have hv : decide (l = l') = true := by
          simp only [decide_eq_true_eq]
          refine List.ext_getElem? fun j => ?_
          by_cases hj : j < k
          · exact HSAME.out j hj
          · rw [List.getElem?_eq_none (by have := HN.out; omega), List.getElem?_eq_none (by have := HM.out; have := HLL.out; omega)]
        have HV := Nu.hid hv
        clear hv hbw
        go_wp2
        go_ret
        exact ⟨by rw [HV.out]; rfl, HBW.out⟩
  · have j1 : ((n : Int) != (m : Int)) = true := by simp; omega
    have hv : decide (l = l') = false := by
      simp only [decide_eq_false_iff_not]
      intro h
      rw [h] at hn
      omega
    rw [hv]
    clear hll hn hm hv
    go_enter Tryz.func16, Tryz.ntmps16
    go_wp2
    go_ret
    exact ⟨rfl, Below.refl _ _⟩

end Go.Proofs.YtalfpbalekbinaaGreat

/-
  The document's example; what the law asks of it.
-/
namespace Go.Proofs.YtalfpbalekbinaaGreat
open Go.RowKit

/-- The example lies at b. -/
theorem ex9_edges {w : World} {b : Nat} (h : EdgesBlk w b Bl.ex9) : EdgesAt w (some ⟨b, 0, none⟩) Bl.ex9 := fun j p hj => by
  refine ⟨b, 0, rfl, ?_⟩
  rw [Nat.zero_add]
  exact h.cells hj

set_option maxRecDepth 100000 in
set_option maxHeartbeats 16000000 in
theorem example_any (w : World) : Calls Tryz.prog 14 #[] w fun e w' => ∃ b, e = .returned (.agg #[.int .i64 7, .slice (some ⟨b, 0, none⟩) 7 7]) ∧ EdgesAt w' (some ⟨b, 0, none⟩) Bl.ex9 ∧ Below w.heap.size w w' := by
  go_enter Tryz.func14, Tryz.ntmps14
  go_wp2
  refine bodyPost_ret (v := .agg #[.int .i64 7, .slice (some ⟨w.heap.size + 1, 0, none⟩) 7 7]) (by simp [results, Tryz.results14, go_sem]) rfl ?_
  refine ⟨w.heap.size + 1, rfl, ex9_edges ?_, ((Below.refl _ _).alloc (Nat.le_refl _) _).alloc (by simp) _⟩
  have := heap_alloc_new (w.alloc (.cells #[.int .i64 7, .slice (some ⟨w.heap.size + 1, 0, none⟩) 7 7] 24)) (.cells (flatE Bl.ex9).toArray 46)
  rw [World.size_alloc] at this
  exact this

theorem same_new {ao : Option Addr} {c k : Nat} {l : List Int} {W : World} (V : World) (hk : l.length = k) (h : IntsAt W ao l) (hb : Below W.heap.size W V) (hl : k ≤ 1000) :
    Calls Tryz.prog 16 #[.slice ao k c, .slice (some ⟨V.heap.size, 0, none⟩) k k] (V.alloc (.cells (l.map (Value.int .i64)).toArray 3)) fun e w' => e = .returned (.bool true) ∧ Below V.heap.size V w' := by
  have hb1 : Below V.heap.size V (V.alloc (.cells (l.map (Value.int .i64)).toArray 3)) := (Below.refl _ _).alloc (Nat.le_refl _) _
  have hi : IntsBlk (V.alloc (.cells (l.map (Value.int .i64)).toArray 3)) V.heap.size l := heap_alloc_new V _
  refine (sameints_any ao (some ⟨V.heap.size, 0, none⟩) c k k k l l _ hk hk ((h.later hb).later hb1) hi.at (by omega)).mono ?_
  rintro e w' ⟨h1, h2⟩
  exact ⟨by rw [h1]; simp, hb1.trans (h2.mono hb1.size)⟩

section
variable {W : World} {b : Nat} (he : EdgesAt W (some ⟨b, 0, none⟩) Bl.ex9)
include he
theorem exOf : Calls Tryz.prog 13 #[.agg #[.int .i64 7, .slice (some ⟨b, 0, none⟩) 7 7]] W fun e w' => ∃ go, e = .returned (.tuple #[.slice (some ⟨go, 0, none⟩) 7 7, .int .i64 3, .int .i64 0]) ∧ IntsAt w' (some ⟨go, 0, none⟩) [0, 0, 0, 1, 2, 2, 2] ∧ Below W.heap.size W w' :=
  (pof9_yes 7 (some ⟨b, 0, none⟩) 7 Bl.ex9 W he Bl.ex9_val).mono (by
    rintro e w' ⟨s, go, hvf, h1, h2, h3, h4⟩
    rw [Bl.cnt9 hvf] at h1
    rw [Bl.nums9 hvf] at h2
    exact ⟨go, h1, h2.at, h4⟩)
theorem exCuts : Calls Tryz.prog 5 #[.agg #[.int .i64 7, .slice (some ⟨b, 0, none⟩) 7 7]] W fun e w' => ∃ a c, e = .returned (.tuple #[.slice a 2 c, .int .i64 0]) ∧ IntsAt w' a [2, 3] ∧ Below W.heap.size W w' :=
  (pcuts9_yes 7 (some ⟨b, 0, none⟩) 7 Bl.ex9 W he Bl.ex9_val).mono (by
    rintro e w' ⟨s, v, hvf, h1, h2, h4⟩
    dsimp only at h2
    rw [Bl.cuts9 hvf] at h2
    obtain ⟨a, c, e1, h3, _⟩ := h2.form
    subst e1
    exact ⟨a, c, h1, h3, h4⟩)
theorem exBridges : Calls Tryz.prog 7 #[.agg #[.int .i64 7, .slice (some ⟨b, 0, none⟩) 7 7]] W fun e w' => ∃ a c, e = .returned (.tuple #[.slice a 1 c, .int .i64 0]) ∧ IntsAt w' a [3] ∧ Below W.heap.size W w' :=
  (pbridges9_yes 7 (some ⟨b, 0, none⟩) 7 Bl.ex9 W he Bl.ex9_val).mono (by
    rintro e w' ⟨s, v, hvf, h1, h2, h4⟩
    dsimp only at h2
    rw [Bl.br9 hvf] at h2
    obtain ⟨a, c, e1, h3, _⟩ := h2.form
    subst e1
    exact ⟨a, c, h1, h3, h4⟩)
theorem exBlock : Calls Tryz.prog 15 #[.agg #[.int .i64 7, .slice (some ⟨b, 0, none⟩) 7 7], .int .i64 2] W fun e w' => ∃ g a c, e = .returned (.tuple #[.agg #[.int .i64 3, .slice (some ⟨g, 0, none⟩) 3 3], .slice a 3 c, .int .i64 0]) ∧ IntsAt w' a [3, 4, 5] ∧ Below W.heap.size W w' :=
  (pblock9_yes 7 2 (some ⟨b, 0, none⟩) 7 Bl.ex9 W he Bl.ex9_val).mono (by
    rintro e w' (⟨kk, hk, s, g, v, hvf, h0, h1, h2, h3, _, _, h4⟩ | ⟨s, hvf, h1, _⟩)
    · obtain rfl : kk = 2 := by omega
      rw [show ((2 : Nat) : Int) = 2 from rfl] at h1 h3
      rw [Bl.vs9 hvf] at h3
      rw [Bl.vs9 hvf, Bl.bk9 hvf] at h1
      obtain ⟨a, c, e1, h5, _⟩ := h3.form
      subst e1
      exact ⟨g, a, c, h1, h5, h4⟩
    · rw [Bl.cnt9 hvf] at h1
      exact absurd h1 (by decide))
end

set_option maxRecDepth 100000 in
set_option maxHeartbeats 16000000 in
theorem wakes_any (w : World) : Calls Tryz.prog 4 #[] w fun e w' => e = .returned (.bool true) ∧ Below w.heap.size w w' := by
  have HEX : Hid (∀ W, Below w.heap.size w W → Calls Tryz.prog 14 #[] W fun e w' => ∃ b, e = .returned (.agg #[.int .i64 7, .slice (some ⟨b, 0, none⟩) 7 7]) ∧ EdgesAt w' (some ⟨b, 0, none⟩) Bl.ex9 ∧ Below W.heap.size W w' ∧ Below w.heap.size w w') := fun W hW => (example_any W).mono (by
    rintro e w' ⟨b, h1, h2, h3⟩
    exact ⟨b, h1, h2, h3, hW.trans (h3.mono hW.size)⟩)
  have hbr : Below w.heap.size w w := Below.refl _ _
  go_enter Tryz.func4, Tryz.ntmps4
  go_wp2_with (first
    | (go_at_call 14; refine (HEX.out _ hbr).mono ?_; rintro e w1 ⟨b1, rfl, he1, hb1, hbr⟩; have HE := Nu.hid he1; clear he1)
    | (go_at_call 13; refine (exOf HE.out).mono ?_; rintro e w2 ⟨go, rfl, hi, hb2⟩; have HI1 := Nu.hid hi; have HB2 := Nu.hid (hbr.trans (hb2.mono hbr.size)); clear hi; refine Hid.out ?_))
  refine Nu.hid ?_
  clear hb1 hb2 hbr HE
  go_wp2_with (first
    | (go_at_call 14; refine (HEX.out _ HB2.out).mono ?_; rintro e w3 ⟨b3, rfl, he3, hb3, hbr⟩; have HE := Nu.hid he3; clear he3)
    | (go_at_call 5; refine (exCuts HE.out).mono ?_; rintro e w4 ⟨a4, c4, rfl, hi, hb4⟩; have HI2 := Nu.hid hi; have HB4 := Nu.hid (hbr.trans (hb4.mono hbr.size)); clear hi; refine Hid.out ?_))
  refine Nu.hid ?_
  have hb24 := hb3.trans (hb4.mono hb3.size)
  have HI14 := Nu.hid (HI1.out.later hb24)
  clear hb3 hb4 hbr HE hb24 HI1
  go_wp2_with (first
    | (go_at_call 14; refine (HEX.out _ HB4.out).mono ?_; rintro e w5 ⟨b5, rfl, he5, hb5, hbr⟩; have HE := Nu.hid he5; clear he5)
    | (go_at_call 7; refine (exBridges HE.out).mono ?_; rintro e w6 ⟨a6, c6, rfl, hi, hb6⟩; have HI3 := Nu.hid hi; have HB6 := Nu.hid (hbr.trans (hb6.mono hbr.size)); clear hi; refine Hid.out ?_))
  refine Nu.hid ?_
  have hb46 := hb5.trans (hb6.mono hb5.size)
  have HI16 := Nu.hid (HI14.out.later hb46)
  have HI26 := Nu.hid (HI2.out.later hb46)
  clear hb5 hb6 hbr HE hb46 HI14 HI2
  go_wp2_with (first
    | (go_at_call 14; refine (HEX.out _ HB6.out).mono ?_; rintro e w7 ⟨b7, rfl, he7, hb7, hbr⟩; have HE := Nu.hid he7; clear he7)
    | (go_at_call 15; refine (exBlock HE.out).mono ?_; rintro e w8 ⟨g8, a8, c8, rfl, hi, hb8⟩; have HI48 := Nu.hid hi; have HB8 := Nu.hid (hbr.trans (hb8.mono hbr.size)); clear hi; refine Hid.out ?_))
  refine Nu.hid ?_
  have hb68 := hb7.trans (hb8.mono hb7.size)
  have HI18 := Nu.hid (HI16.out.later hb68)
  have HI28 := Nu.hid (HI26.out.later hb68)
  have HI38 := Nu.hid (HI3.out.later hb68)
  clear hb7 hb8 hbr HE hb68 HI16 HI26 HI3
  have hx : Below w8.heap.size w8 (w8.alloc (.cells #[.int .i64 3, .slice (some ⟨g8, 0, none⟩) 3 3] 24)) := (Below.refl _ _).alloc (Nat.le_refl _) _
  have HS1 : Hid (Calls Tryz.prog 16 #[.slice (some ⟨go, 0, none⟩) 7 7, .slice (some ⟨w8.heap.size + 1, 0, none⟩) 7 7] ((w8.alloc (.cells #[.int .i64 3, .slice (some ⟨g8, 0, none⟩) 3 3] 24)).alloc (.cells #[.int .i64 0, .int .i64 0, .int .i64 0, .int .i64 1, .int .i64 2, .int .i64 2, .int .i64 2] 3)) fun e w' => e = .returned (.bool true) ∧ Below w8.heap.size w8 w') := by
    have := same_new (c := 7) (k := 7) _ rfl HI18.out hx (by omega)
    rw [World.size_alloc] at this
    refine this.mono ?_
    rintro e w' ⟨h1, h2⟩
    exact ⟨h1, hx.trans (h2.mono (by omega))⟩
  have HS2 : Hid (∀ V, Below w8.heap.size w8 V → Calls Tryz.prog 16 #[.slice a4 2 c4, .slice (some ⟨V.heap.size, 0, none⟩) 2 2] (V.alloc (.cells #[.int .i64 2, .int .i64 3] 3)) fun e w' => e = .returned (.bool true) ∧ Below w8.heap.size w8 w') := fun V hV => (same_new (c := c4) (k := 2) V rfl HI28.out hV (by omega)).mono (by
    rintro e w' ⟨h1, h2⟩
    exact ⟨h1, hV.trans (h2.mono hV.size)⟩)
  have HS3 : Hid (∀ V, Below w8.heap.size w8 V → Calls Tryz.prog 16 #[.slice a6 1 c6, .slice (some ⟨V.heap.size, 0, none⟩) 1 1] (V.alloc (.cells #[.int .i64 3] 3)) fun e w' => e = .returned (.bool true) ∧ Below w8.heap.size w8 w') := fun V hV => (same_new (c := c6) (k := 1) V rfl HI38.out hV (by omega)).mono (by
    rintro e w' ⟨h1, h2⟩
    exact ⟨h1, hV.trans (h2.mono hV.size)⟩)
  have HS4 : Hid (∀ V, Below w8.heap.size w8 V → Calls Tryz.prog 16 #[.slice a8 3 c8, .slice (some ⟨V.heap.size, 0, none⟩) 3 3] (V.alloc (.cells #[.int .i64 3, .int .i64 4, .int .i64 5] 3)) fun e w' => e = .returned (.bool true) ∧ Below w8.heap.size w8 w') := fun V hV => (same_new (c := c8) (k := 3) V rfl HI48.out hV (by omega)).mono (by
    rintro e w' ⟨h1, h2⟩
    exact ⟨h1, hV.trans (h2.mono hV.size)⟩)
  clear hx
  go_wp2_with (go_at_call 16; refine HS1.out.mono ?_; rintro e w9 ⟨rfl, hb9⟩; refine Hid.out ?_)
  refine Nu.hid ?_
  go_wp2_with (go_at_call 16; refine (HS2.out _ hb9).mono ?_; rintro e w10 ⟨rfl, hb10⟩; refine Hid.out ?_)
  refine Nu.hid ?_
  go_wp2_with (go_at_call 16; refine (HS3.out _ hb10).mono ?_; rintro e w11 ⟨rfl, hb11⟩; refine Hid.out ?_)
  refine Nu.hid ?_
  go_wp2_with (go_at_call 16; refine (HS4.out _ hb11).mono ?_; rintro e w12 ⟨rfl, hb12⟩; refine Hid.out ?_)
  refine Nu.hid ?_
  have HB12 := Nu.hid (HB8.out.trans (hb12.mono HB8.out.size))
  clear hb9 hb10 hb11 hb12
  go_wp2
  go_ret
  exact ⟨rfl, HB12.out⟩
end Go.Proofs.YtalfpbalekbinaaGreat

/-
  Blocks: one answer for each graph, of the program and of the document.
-/
namespace Go.Proofs.YtalfpbalekbinaaGreat
open Go.RowKit

namespace Bl
open Df Lo
section
variable {n : Nat} {es : List (Int × Int)} {s : St}
/-- Joined by pairs, again and again. -/
def Same9 (es : List (Int × Int)) (i k : Nat) : Prop := ∀ f : Nat → Nat, (∀ a b u, a < es.length → b < es.length → PairE es u a b → f a = f b) → f i = f k
theorem Same9.refl (i : Nat) : Same9 es i i := fun _ _ => rfl
theorem Same9.symm {i k : Nat} (h : Same9 es i k) : Same9 es k i := fun f hf => (h f hf).symm
theorem Same9.trans {i k l : Nat} (h : Same9 es i k) (h' : Same9 es k l) : Same9 es i l := fun f hf => (h f hf).trans (h' f hf)
theorem same_hdf (hv : Si.Val n es) (h : VF n es s) {i k : Nat} (hi : i < es.length) (hk : k < es.length) : hdf es s i = hdf es s k ↔ Same9 es i k := by
  rw [blocks_iff hv h (hdf_of hv h hi) (hdf_of hv h hk)]
  constructor
  · intro hall f hf
    exact hall f fun a b ha hb ⟨u, hp⟩ => hf a b u ha hb ((pairE_iff hv h ha hb).2 hp)
  · intro hall f hf
    exact hall f fun a b u ha hb hp => hf a b ha hb ⟨u, (pairE_iff hv h ha hb).1 hp⟩
open Classical in
/-- The least edge of an edge's block. -/
noncomputable def m9 (es : List (Int × Int)) (e : Nat) : Nat := mn ((List.range es.length).filter fun i => decide (Same9 es i e))
theorem m9_mem {e : Nat} (he : e < es.length) : m9 es e < es.length ∧ Same9 es (m9 es e) e := by
  classical
  have := mn_mem (l := (List.range es.length).filter fun i => decide (Same9 es i e)) (fun h => by
    have : e ∈ (List.range es.length).filter fun i => decide (Same9 es i e) := List.mem_filter.2 ⟨List.mem_range.2 he, by simpa using Same9.refl e⟩
    rw [h] at this
    cases this)
  rw [List.mem_filter, List.mem_range, decide_eq_true_iff] at this
  exact this
theorem m9_le {e i : Nat} (hi : i < es.length) (h : Same9 es i e) : m9 es e ≤ i := by
  classical
  exact mn_le i (List.mem_filter.2 ⟨List.mem_range.2 hi, by simpa using h⟩)
/-- A class function in its one form is this one. -/
theorem m9_one {m : Nat → Nat} (hn : Co.Norm es.length m) (h : ∀ i k, i < es.length → k < es.length → (m i = m k ↔ Same9 es i k)) {e : Nat} (he : e < es.length) : m e = m9 es e := by
  obtain ⟨h1, h2⟩ := m9_mem he
  have h3 := (h _ _ h1 he).2 h2
  have h4 := hn.le _ h1
  have h5 : m9 es e ≤ m e := m9_le (hn.lt he) ((h _ _ (hn.lt he) he).1 (hn.idem e he))
  omega
theorem m9_mB (hv : Si.Val n es) (h : VF n es s) {e : Nat} (he : e < es.length) : mB es s e = m9 es e :=
  m9_one mB_norm (fun _ _ hi hk => (mB_iff hk hi).trans (same_hdf hv h hi hk)) he
theorem m9_cl {m : Nat → Nat} (hv : Si.Val n es) (hc : ClE n es m (fun _ _ _ => True)) {e : Nat} (he : e < es.length) : m e = m9 es e := by
  refine m9_one hc.norm (fun i k hi hk => ?_) he
  obtain ⟨js, h1, h2, h3⟩ := hc
  have hP : ∀ a b u, a < es.length → b < es.length → PairE es u a b → m a = m b := fun a b u ha hb hp => by
    have hu : u < n := by
      obtain ⟨p, q, hp, hq, h4, _⟩ := hp
      have := ends_at hv hp
      omega
    rcases Nat.lt_trichotomy a b with hlt | rfl | hlt
    · have := h1.meets _ (h3 u a b hu hlt hb hp trivial) ⟨by simp, by simpa using ha⟩ ⟨by simp, by simpa using hb⟩
      simpa using this
    · rfl
    · have hp' : PairE es u b a := by
        obtain ⟨p, q, x1, x2, x3, x4, x5⟩ := hp
        exact ⟨q, p, x2, x1, x4, x3, x5.symm⟩
      have := h1.meets _ (h3 u b a hu hlt ha hp' trivial) ⟨by simp, by simpa using hb⟩ ⟨by simp, by simpa using ha⟩
      exact (by simpa using this : m b = m a).symm
  constructor
  · intro hm f hf
    have hM : Co.Meets es.length js f := fun j hj a1 a2 => by
      obtain ⟨x, y⟩ := j
      obtain ⟨a, rfl⟩ : ∃ a : Nat, x = (a : Int) := ⟨x.toNat, by have := a1.1; dsimp only at this; omega⟩
      obtain ⟨b, rfl⟩ : ∃ b : Nat, y = (b : Int) := ⟨y.toNat, by have := a2.1; dsimp only at this; omega⟩
      obtain ⟨u, _, hp⟩ := h2 a b hj
      have := hf a b u (by have := a1.2; dsimp only at this; omega) (by have := a2.2; dsimp only at this; omega) hp
      simpa using this
    rw [← h1.least f hM i hi, ← h1.least f hM k hk, hm]
  · intro hs
    exact hs m hP
theorem m9_norm : Co.Norm es.length (m9 es) := by
  refine ⟨fun x hx => m9_le hx (Same9.refl x), fun x hx => ?_⟩
  obtain ⟨h1, h2⟩ := m9_mem hx
  obtain ⟨h3, h4⟩ := m9_mem h1
  have h5 := m9_le h1 (Same9.refl (m9 es x))
  have h6 := m9_le (e := x) h3 (h4.trans h2)
  omega
/-- The number of an edge's block; how many there are. -/
noncomputable def no9 (es : List (Int × Int)) : Nat → Nat := numB (m9 es)
noncomputable def ct9 (es : List (Int × Int)) : Nat := cntB (m9 es) es.length
theorem no9_of {m : Nat → Nat} (h : ∀ e, e < es.length → m e = m9 es e) : (∀ e, e < es.length → numB m e = no9 es e) ∧ cntB m es.length = ct9 es :=
  ⟨fun _ he => numB_congr m9_norm h he, cntB_congr h⟩

noncomputable def of9 (n : Int) (es : List (Int × Int)) : List Int × Nat × Int := if Si.valid n es = true then (nums es.length (no9 es), ct9 es, 0) else ([], 0, 1)
noncomputable def cu9 (n : Int) (es : List (Int × Int)) : List Int × Int := if Si.valid n es = true then (cutsTo es (no9 es) (ct9 es) n.toNat, 0) else ([], 1)
noncomputable def bs9 (n : Int) (es : List (Int × Int)) : List Int × Int := if Si.valid n es = true then (brTo (no9 es) es.length es.length, 0) else ([], 1)
noncomputable def vb9 (n : Int) (es : List (Int × Int)) (k : Int) : List Int := vsTo es (no9 es) k n.toNat
noncomputable def bl9 (n : Int) (es : List (Int × Int)) (k : Int) : List (Int × Int) × List Int × Int :=
  if Si.valid n es = true then (if k < 0 ∨ (ct9 es : Int) ≤ k then ([], [], 2) else (bkTo es (no9 es) (vb9 n es k) k.toNat es.length, vb9 n es k, 0)) else ([], [], 1)
theorem of9_t {n : Int} {es : List (Int × Int)} (h : Si.valid n es = true) : of9 n es = (nums es.length (no9 es), ct9 es, 0) := if_pos h
theorem of9_f {n : Int} {es : List (Int × Int)} (h : Si.valid n es = false) : of9 n es = ([], 0, 1) := if_neg (by rw [h]; decide)
theorem cu9_t {n : Int} {es : List (Int × Int)} (h : Si.valid n es = true) : cu9 n es = (cutsTo es (no9 es) (ct9 es) n.toNat, 0) := if_pos h
theorem cu9_f {n : Int} {es : List (Int × Int)} (h : Si.valid n es = false) : cu9 n es = ([], 1) := if_neg (by rw [h]; decide)
theorem bs9_t {n : Int} {es : List (Int × Int)} (h : Si.valid n es = true) : bs9 n es = (brTo (no9 es) es.length es.length, 0) := if_pos h
theorem bs9_f {n : Int} {es : List (Int × Int)} (h : Si.valid n es = false) : bs9 n es = ([], 1) := if_neg (by rw [h]; decide)
theorem bl9_f {n k : Int} {es : List (Int × Int)} (h : Si.valid n es = false) : bl9 n es k = ([], [], 1) := if_neg (by rw [h]; decide)
theorem bl9_o {n k : Int} {es : List (Int × Int)} (h : Si.valid n es = true) (hk : k < 0 ∨ (ct9 es : Int) ≤ k) : bl9 n es k = ([], [], 2) := by rw [bl9, if_pos h, if_pos hk]
theorem bl9_t {n : Int} {es : List (Int × Int)} (h : Si.valid n es = true) {k : Nat} (hk : k < ct9 es) : bl9 n es k = (bkTo es (no9 es) (vb9 n es k) k es.length, vb9 n es k, 0) := by
  rw [bl9, if_pos h, if_neg (by omega), Int.toNat_natCast]
theorem of9_length (n : Int) (es : List (Int × Int)) : (of9 n es).1.length ≤ es.length := by
  cases h : Si.valid n es with
  | true => rw [of9_t h]; exact Nat.le_of_eq (nums_length _ _)
  | false => rw [of9_f h]; exact Nat.zero_le _
theorem cu9_length (n : Int) (es : List (Int × Int)) : (cu9 n es).1.length ≤ 1048576 := by
  cases h : Si.valid n es with
  | true =>
    rw [cu9_t h]
    have := (Si.valid_iff.1 h).hi
    exact Nat.le_trans (cutsTo_length _ _ _ _) (by omega)
  | false => rw [cu9_f h]; exact Nat.zero_le _
theorem bs9_length (n : Int) (es : List (Int × Int)) : (bs9 n es).1.length ≤ es.length := by
  cases h : Si.valid n es with
  | true => rw [bs9_t h]; exact brTo_length _ _ _
  | false => rw [bs9_f h]; exact Nat.zero_le _
theorem bl9_length (n k : Int) (es : List (Int × Int)) : (bl9 n es k).1.length ≤ es.length ∧ (bl9 n es k).2.1.length ≤ 1048576 := by
  cases h : Si.valid n es with
  | true =>
    have := (Si.valid_iff.1 h).hi
    by_cases hk : k < 0 ∨ (ct9 es : Int) ≤ k
    · rw [bl9_o h hk]
      exact ⟨Nat.zero_le _, Nat.zero_le _⟩
    · obtain ⟨kk, rfl⟩ : ∃ kk : Nat, k = (kk : Int) := ⟨k.toNat, by omega⟩
      rw [bl9_t h (by omega)]
      exact ⟨bkTo_length _ _ _, Nat.le_trans (vsTo_length _ _) (by omega)⟩
  | false => rw [bl9_f h]; exact ⟨Nat.zero_le _, Nat.zero_le _⟩
end
end Bl

theorem IntsBlk.own9 {w : World} {g B : Nat} {l : List Int} (h : IntsBlk w g l) (hB : B ≤ g) (hm : l.length ≤ maxLen) : OwnZ w B (.slice (some ⟨g, 0, none⟩) l.length l.length) l :=
  ⟨by simp, .inr ⟨g, l.length, (l.map (Value.int .i64)).toArray, rfl, hB, h, Nat.le_refl _, hm, by simp, by
    rw [List.toList_toArray]
    exact List.take_of_length_le (by simp)⟩⟩

/-- What Of answers: the list r.1, the number r.2.1, the error r.2.2. -/
def OfS (r : List Int × Nat × Int) (w : World) (e : Ending) (w' : World) : Prop := ∃ ao c, e = .returned (.tuple #[.slice ao r.1.length c, .int .i64 (r.2.1 : Int), .int .i64 r.2.2]) ∧ OwnZ w' w.heap.size (.slice ao r.1.length c) r.1 ∧ Below w.heap.size w w'
/-- What Cuts and Bridges answer. -/
def LiS (r : List Int × Int) (w : World) (e : Ending) (w' : World) : Prop := ∃ ao c, e = .returned (.tuple #[.slice ao r.1.length c, .int .i64 r.2]) ∧ OwnZ w' w.heap.size (.slice ao r.1.length c) r.1 ∧ Below w.heap.size w w'
/-- What Block answers. -/
def BkS (r : List (Int × Int) × List Int × Int) (w : World) (e : Ending) (w' : World) : Prop :=
  ∃ ea ec ao c, e = .returned (.tuple #[.agg #[.int .i64 (r.2.1.length : Int), .slice ea r.1.length ec], .slice ao r.2.1.length c, .int .i64 r.2.2]) ∧ OwnE w' w.heap.size (.slice ea r.1.length ec) r.1 ∧ OwnZ w' w.heap.size (.slice ao r.2.1.length c) r.2.1 ∧
    (∀ b, (Value.slice ao r.2.1.length c).ownBlock = some b → (Value.slice ea r.1.length ec).ownBlock ≠ some b) ∧ Below w.heap.size w w'

theorem LiS.mk {l : List Int} {z : Int} {w w' : World} {v : Value} (h : OwnZ w' w.heap.size v l) (hb : Below w.heap.size w w') : LiS (l, z) w (.returned (.tuple #[v, .int .i64 z])) w' := by
  obtain ⟨a, c, e, _⟩ := h.form
  subst e
  exact ⟨a, c, rfl, h, hb⟩

theorem of9_is {n : Int} {es : List (Int × Int)} {w w' : World} {g : Nat} {m : Nat → Nat} (hv : Si.valid n es = true) (hm : ∀ e, e < es.length → m e = Bl.m9 es e) (hg : w.heap.size ≤ g) (hi : IntsBlk w' g (Bl.nums es.length (Bl.numB m))) (hb : Below w.heap.size w w') : OfS (Bl.of9 n es) w (.returned (.tuple #[.slice (some ⟨g, 0, none⟩) es.length es.length, .int .i64 (Bl.cntB m es.length : Int), .int .i64 0])) w' := by
  obtain ⟨h1, h2⟩ := Bl.no9_of hm
  rw [Bl.nums_congr h1] at hi
  have hlen := Bl.nums_length es.length (Bl.no9 es)
  have hfew := (Si.valid_iff.1 hv).few
  have ho := hi.own9 hg (by unfold maxLen; rw [hlen]; omega)
  rw [Bl.of9_t hv, h2]
  refine ⟨some ⟨g, 0, none⟩, es.length, ?_, ?_, hb⟩
  · rw [hlen]
  · rw [hlen] at ho ⊢
    exact ho

section
variable (n : Int) (ao : Option Addr) (cap : Nat) (es : List (Int × Int)) (w : World) (he : EdgesAt w ao es) (hl : es.length ≤ 4611686018427387904)
include he hl

theorem pof_is : Calls Tryz.prog 13 #[graphVal n ao es.length cap] w (OfS (Bl.of9 n es) w) := by
  cases hv : Si.valid n es with
  | true =>
    have hval := Si.valid_iff.1 hv
    obtain ⟨n, rfl⟩ : ∃ m : Nat, n = (m : Int) := ⟨n.toNat, by have := hval.lo; omega⟩
    refine (pof9_yes n ao cap es w he hval).mono ?_
    rintro e w' ⟨s, go, hvf, rfl, h2, h3, h4⟩
    exact of9_is hv (fun e he => Bl.m9_mB hval hvf he) h3 h2 h4
  | false =>
    refine (pof9_no n ao cap es w he hl hv).mono ?_
    rintro e w' ⟨rfl, hb⟩
    rw [Bl.of9_f hv]
    exact ⟨none, 0, rfl, .nil _ _, hb⟩
theorem pcuts_is : Calls Tryz.prog 5 #[graphVal n ao es.length cap] w (LiS (Bl.cu9 n es) w) := by
  cases hv : Si.valid n es with
  | true =>
    have hval := Si.valid_iff.1 hv
    obtain ⟨n, rfl⟩ : ∃ m : Nat, n = (m : Int) := ⟨n.toNat, by have := hval.lo; omega⟩
    refine (pcuts9_yes n ao cap es w he hval).mono ?_
    rintro e w' ⟨s, v, hvf, rfl, h2, h4⟩
    obtain ⟨k1, k2⟩ := Bl.no9_of (fun e he => Bl.m9_mB hval hvf (e := e) he)
    rw [Bl.cu9_t hv]
    dsimp only at h2
    rw [k2, Bl.cutsTo_congr k1] at h2
    exact .mk h2 h4
  | false =>
    refine (pcuts9_no n ao cap es w he hl hv).mono ?_
    rintro e w' ⟨rfl, hb⟩
    rw [Bl.cu9_f hv]
    exact .mk (.nil _ _) hb
theorem pbridges_is : Calls Tryz.prog 7 #[graphVal n ao es.length cap] w (LiS (Bl.bs9 n es) w) := by
  cases hv : Si.valid n es with
  | true =>
    have hval := Si.valid_iff.1 hv
    obtain ⟨n, rfl⟩ : ∃ m : Nat, n = (m : Int) := ⟨n.toNat, by have := hval.lo; omega⟩
    refine (pbridges9_yes n ao cap es w he hval).mono ?_
    rintro e w' ⟨s, v, hvf, rfl, h2, h4⟩
    obtain ⟨k1, k2⟩ := Bl.no9_of (fun e he => Bl.m9_mB hval hvf (e := e) he)
    rw [Bl.bs9_t hv]
    dsimp only at h2
    rw [Bl.brTo_congr k1 _ (Nat.le_refl _)] at h2
    exact .mk h2 h4
  | false =>
    refine (pbridges9_no n ao cap es w he hl hv).mono ?_
    rintro e w' ⟨rfl, hb⟩
    rw [Bl.bs9_f hv]
    exact .mk (.nil _ _) hb
theorem pblock_is (k : Int) : Calls Tryz.prog 15 #[graphVal n ao es.length cap, .int .i64 k] w (BkS (Bl.bl9 n es k) w) := by
  cases hv : Si.valid n es with
  | true =>
    have hval := Si.valid_iff.1 hv
    have hfew := hval.few
    obtain ⟨n, rfl⟩ : ∃ m : Nat, n = (m : Int) := ⟨n.toNat, by have := hval.lo; omega⟩
    refine (pblock9_yes n k ao cap es w he hval).mono ?_
    rintro e w' (⟨kk, rfl, s, g, v, hvf, h0, rfl, h2, h3, h5, h6, h4⟩ | ⟨s, hvf, h1, rfl, hb⟩)
    · obtain ⟨k1, k2⟩ := Bl.no9_of (fun e he => Bl.m9_mB hval hvf (e := e) he)
      rw [k2] at h0
      rw [Bl.bl9_t hv h0]
      unfold Bl.vb9
      rw [Int.toNat_natCast]
      rw [Bl.vsTo_congr k1, Bl.bkTo_congr k1] at h2 ⊢
      rw [Bl.vsTo_congr k1] at h3
      obtain ⟨a, c, e1, _⟩ := h3.form
      subst e1
      have hbl := Bl.bkTo_length (es := es) (f := Bl.no9 es) (Bl.vsTo es (Bl.no9 es) (kk : Int) n) kk es.length
      refine ⟨some ⟨g, 0, none⟩, _, a, c, rfl, h2.own h5 (by unfold maxLen; omega), h3, fun b hb e => ?_, h4⟩
      have := h6 b hb
      have e2 : g = b := by simpa [Value.ownBlock] using e
      omega
    · obtain ⟨k1, k2⟩ := Bl.no9_of (fun e he => Bl.m9_mB hval hvf (e := e) he)
      rw [k2] at h1
      rw [Bl.bl9_o hv h1]
      exact ⟨none, 0, none, 0, rfl, .nil _ _, .nil _ _, (fun b hb => by cases hb), hb⟩
  | false =>
    refine (pblock9_no n k ao cap es w he hl hv).mono ?_
    rintro e w' ⟨rfl, hb⟩
    rw [Bl.bl9_f hv]
    exact ⟨none, 0, none, 0, rfl, .nil _ _, .nil _ _, (fun b hb => by cases hb), hb⟩
end
end Go.Proofs.YtalfpbalekbinaaGreat
