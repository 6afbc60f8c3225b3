import Derived.Test.YtalfpbalekbinaaMg36
import Derived.Test.YtalfpbalekbinaaMg25
import Derived.Test.YtalfpbalekbinaaMg38
import Derived.Test.YtalfpbalekbinaaMg00
import Derived.Deep.QuietTactic
import Derived.BigQuiet
/-
  Blocks, pure: the document's classes of edges are the finder's.
-/
namespace Go.Proofs.Ytalfpbalekbinaa
namespace Bl
open Df Lo

section
variable {n : Nat} {es : List (Int × Int)} {s : St} {v : Nat}

theorem ends_at (hv : Si.Val n es) {i : Nat} {p : Int × Int} (hp : es[i]? = some p) : p.1 = (eU es i : Int) ∧ p.2 = (eV es i : Int) ∧ eU es i < n ∧ eV es i < n := by
  have hok := hv.each i p hp
  unfold Si.ok at hok
  have h1 : eU es i = p.1.toNat := by
    unfold eU Cs.fr
    rw [show 2 * i / 2 = i by omega, List.getD_eq_getElem?_getD, hp, if_pos (by omega)]
    rfl
  have h2 : eV es i = p.2.toNat := by
    unfold eV Cs.to
    rw [show 2 * i / 2 = i by omega, List.getD_eq_getElem?_getD, hp, if_pos (by omega)]
    rfl
  omega
theorem edge_of {k : Nat} (hk : k < es.length) : ∃ p, es[k]? = some p := ⟨_, List.getElem?_eq_getElem hk⟩
theorem shutE_iff (hv : Si.Val n es) (h : VF n es s) {S : Nat → Prop} : ShutE es (v : Int) S ↔ ShutV es s v S := by
  rw [shutV_ends h]
  constructor
  · intro hS k hk h1 h2
    obtain ⟨p, hp⟩ := edge_of hk
    obtain ⟨e1, e2, _⟩ := ends_at hv hp
    exact hS (eU es k) (eV es k) (by rw [← e1, ← e2]; exact List.mem_of_getElem? hp) (by omega) (by omega)
  · intro hS a b hab h1 h2
    obtain ⟨k, hk⟩ := List.getElem?_of_mem hab
    obtain ⟨e1, e2, _⟩ := ends_at hv hk
    have ha : a = eU es k := by dsimp only at e1; omega
    have hb : b = eV es k := by dsimp only at e2; omega
    rw [ha, hb]
    exact hS k (List.getElem?_eq_some_iff.1 hk).1 (by omega) (by omega)
theorem connE_iff (hv : Si.Val n es) (h : VF n es s) {a b : Nat} : ConnE es (v : Int) a b ↔ ConnV es s v a b :=
  ⟨fun hc S hS => hc S ((shutE_iff hv h).2 hS), fun hc S hS => hc S ((shutE_iff hv h).1 hS)⟩
theorem pairE_iff (hv : Si.Val n es) (h : VF n es s) {i k : Nat} (hi : i < es.length) (hk : k < es.length) : PairE es v i k ↔ endAt es s i v ∧ endAt es s k v ∧ ConnV es s v (oth es s i v) (oth es s k v) := by
  obtain ⟨p, hp⟩ := edge_of hi
  obtain ⟨q, hq⟩ := edge_of hk
  obtain ⟨p1, p2, p3, p4⟩ := ends_at hv hp
  obtain ⟨q1, q2, q3, q4⟩ := ends_at hv hq
  have ep : (p.1 = (v : Int) ∨ p.2 = (v : Int)) ↔ endG es i v := by unfold endG; omega
  have eq : (q.1 = (v : Int) ∨ q.2 = (v : Int)) ↔ endG es k v := by unfold endG; omega
  have op : (othE p v).toNat = othG es i v := by
    unfold othE othG
    by_cases e : eU es i = v
    · rw [if_pos (by omega), if_pos e]; omega
    · rw [if_neg (by omega), if_neg e]; omega
  have oq : (othE q v).toNat = othG es k v := by
    unfold othE othG
    by_cases e : eU es k = v
    · rw [if_pos (by omega), if_pos e]; omega
    · rw [if_neg (by omega), if_neg e]; omega
  constructor
  · rintro ⟨p', q', hp', hq', h1, h2, h3⟩
    rw [hp] at hp'
    rw [hq] at hq'
    cases hp'
    cases hq'
    rw [op, oq, othG_eq hv h hi (ep.1 h1), othG_eq hv h hk (eq.1 h2)] at h3
    exact ⟨(endG_iff h hi).1 (ep.1 h1), (endG_iff h hk).1 (eq.1 h2), (connE_iff hv h).1 h3⟩
  · rintro ⟨h1, h2, h3⟩
    have g1 := (endG_iff h hi).2 h1
    have g2 := (endG_iff h hk).2 h2
    refine ⟨p, q, hp, hq, ep.2 g1, eq.2 g2, ?_⟩
    rw [op, oq, othG_eq hv h hi g1, othG_eq hv h hk g2]
    exact (connE_iff hv h).2 h3
theorem pair_lt (hv : Si.Val n es) (h : VF n es s) {i : Nat} (hi : i < es.length) (ha : endAt es s i v) : v < n := by
  obtain ⟨p, hp⟩ := edge_of hi
  obtain ⟨_, _, p3, p4⟩ := ends_at hv hp
  rcases (endG_iff h hi).2 ha with e | e <;> omega

/-- The document's classes are the blocks by their least edges. -/
theorem ClE.is (hv : Si.Val n es) (h : VF n es s) {m : Nat → Nat} (hc : ClE n es m (fun _ _ _ => True)) {e : Nat} (he : e < es.length) : m e = mB es s e := by
  refine mB_one hc.norm (fun i k hi hk => ?_) he
  obtain ⟨js, h1, h2, h3⟩ := hc
  refine gen_blocks hv h h1 (fun a b ha hb hab => ?_) (fun a b hab hb hp => ?_) hi hk
  · obtain ⟨u, _, hp⟩ := h2 a b hab
    exact ⟨u, (pairE_iff hv h ha hb).1 hp⟩
  · obtain ⟨u, hp⟩ := hp
    exact h3 u a b (pair_lt hv h (by omega) hp.1) hab hb ((pairE_iff hv h (by omega) hb).2 hp) trivial
/-- Any two forests give the same classes. -/
theorem cntTo_congr {p q : Nat → Bool} : ∀ {k : Nat}, (∀ i, i < k → p i = q i) → Co.cntTo p k = Co.cntTo q k
  | 0, _ => rfl
  | k + 1, h => by rw [Co.cntTo, Co.cntTo, cntTo_congr fun i hi => h i (by omega), h k (by omega)]
theorem cntB_congr {m m' : Nat → Nat} {k : Nat} (h : ∀ i, i < k → m i = m' i) : cntB m k = cntB m' k := cntTo_congr fun i hi => by rw [h i hi]
theorem numB_congr {m m' : Nat → Nat} {E : Nat} (hn : Co.Norm E m') (h : ∀ i, i < E → m i = m' i) {e : Nat} (he : e < E) : numB m e = numB m' e := by
  unfold numB
  rw [h e he]
  exact cntB_congr fun i hi => h i (by have := hn.le e he; omega)
section
variable {f f' : Nat → Nat} (hf : ∀ e, e < es.length → f e = f' e)
include hf
open Classical in
theorem hitB_congr (x : Int) (k : Nat) : hitB es f x k es.length = hitB es f' x k es.length := by
  unfold hitB hitTo
  congr 1
  apply propext
  constructor
  · rintro ⟨i, p, h1, h2, h3, h4⟩
    exact ⟨i, p, h1, h2, by rw [← hf i h1]; exact h3, h4⟩
  · rintro ⟨i, p, h1, h2, h3, h4⟩
    exact ⟨i, p, h1, h2, by rw [hf i h1]; exact h3, h4⟩
theorem inB_congr (x : Int) (c : Nat) : inB es f x c = inB es f' x c := cntTo_congr fun i _ => hitB_congr hf x i
theorem cutsTo_congr (c k : Nat) : cutsTo es f c k = cutsTo es f' c k := by
  unfold cutsTo
  congr 1
  exact List.filter_congr fun v _ => by rw [inB_congr hf]
open Classical in
theorem brTo_congr (k : Nat) (hk : k ≤ es.length) : brTo f es.length k = brTo f' es.length k := by
  unfold brTo
  congr 1
  refine List.filter_congr fun i hi => ?_
  have hi := List.mem_range.1 hi
  unfold lone Lone
  congr 1
  apply propext
  constructor
  · intro h j hj hne
    rw [← hf j hj, ← hf i (by omega)]
    exact h j hj hne
  · intro h j hj hne
    rw [hf j hj, hf i (by omega)]
    exact h j hj hne
theorem vsTo_congr (k : Int) (j : Nat) : vsTo es f k j = vsTo es f' k j := by
  unfold vsTo
  congr 1
  exact List.filter_congr fun v _ => by rw [hitB_congr hf]
end

/-- What the document says of its classes, said of the finder's. -/
theorem ClE.num (hv : Si.Val n es) (h : VF n es s) {m : Nat → Nat} (hc : ClE n es m (fun _ _ _ => True)) : (∀ e, e < es.length → numB m e = numB (mB es s) e) ∧ cntB m es.length = cntB (mB es s) es.length :=
  ⟨fun _ he => numB_congr mB_norm (fun _ hi => hc.is hv h hi) he, cntB_congr fun _ hi => hc.is hv h hi⟩
end
end Bl
end Go.Proofs.Ytalfpbalekbinaa

/-
  The document's example, reckoned.
-/
namespace Go.Proofs.Ytalfpbalekbinaa
namespace Bl
open Df Lo

def ex9 : List (Int × Int) := [(0, 1), (0, 2), (1, 2), (2, 3), (3, 4), (3, 5), (4, 5)]
def tab9 : Nat → Nat
  | 3 => 3
  | 4 => 4
  | 5 => 4
  | 6 => 4
  | _ => 0
theorem ex9_val : Si.Val (7 : Nat) ex9 := by
  refine ⟨by decide, by decide, by decide, fun j p hj => ?_, fun j p q hp hq => ?_⟩
  · match j, hj with
    | 0, hj | 1, hj | 2, hj | 3, hj | 4, hj | 5, hj | 6, hj => cases hj; unfold Si.ok; decide
  · match j, hp, hq with
    | 0, hp, hq | 1, hp, hq | 2, hp, hq | 3, hp, hq | 4, hp, hq | 5, hp, hq => cases hp; cases hq; unfold Si.lt; decide
theorem seven {i : Nat} (h : i < ex9.length) : i = 0 ∨ i = 1 ∨ i = 2 ∨ i = 3 ∨ i = 4 ∨ i = 5 ∨ i = 6 := by
  have : ex9.length = 7 := rfl
  omega
def js9 : List (Int × Int) := [(0, 1), (0, 2), (1, 2), (4, 5), (4, 6), (5, 6)]

theorem norm9 : Co.Norm ex9.length tab9 := by
  constructor <;> intro x hx <;> rcases seven hx with rfl | rfl | rfl | rfl | rfl | rfl | rfl <;> decide
theorem gen9 : Co.Gen ex9.length js9 tab9 := by
  refine ⟨norm9, fun j hj _ _ => ?_, fun f hf x hx => ?_⟩
  · simp only [js9, List.mem_cons, List.not_mem_nil, or_false] at hj
    rcases hj with rfl | rfl | rfl | rfl | rfl | rfl <;> decide
  · have h1 : f 0 = f 1 := hf (0, 1) (by simp [js9]) ⟨by decide, by decide⟩ ⟨by decide, by decide⟩
    have h2 : f 0 = f 2 := hf (0, 2) (by simp [js9]) ⟨by decide, by decide⟩ ⟨by decide, by decide⟩
    have h3 : f 4 = f 5 := hf (4, 5) (by simp [js9]) ⟨by decide, by decide⟩ ⟨by decide, by decide⟩
    have h4 : f 4 = f 6 := hf (4, 6) (by simp [js9]) ⟨by decide, by decide⟩ ⟨by decide, by decide⟩
    rcases seven hx with rfl | rfl | rfl | rfl | rfl | rfl | rfl
    · rfl
    · exact h1
    · exact h2
    · rfl
    · rfl
    · exact h3
    · exact h4
/-- What hangs together without a vertex. -/
theorem pairs9 {i k : Nat} (hi : i < ex9.length) (hk : k < ex9.length) (hj : ((i : Int), (k : Int)) ∈ js9) : ∃ u, PairE ex9 u i k := by
  simp only [js9, List.mem_cons, List.not_mem_nil, or_false, Prod.mk.injEq] at hj
  have hc : (i = 0 ∧ k = 1) ∨ (i = 0 ∧ k = 2) ∨ (i = 1 ∧ k = 2) ∨ (i = 4 ∧ k = 5) ∨ (i = 4 ∧ k = 6) ∨ (i = 5 ∧ k = 6) := by omega
  rcases hc with ⟨rfl, rfl⟩ | ⟨rfl, rfl⟩ | ⟨rfl, rfl⟩ | ⟨rfl, rfl⟩ | ⟨rfl, rfl⟩ | ⟨rfl, rfl⟩
  · exact ⟨0, (0, 1), (0, 2), rfl, rfl, .inl rfl, .inl rfl, ConnE.edge (a := 1) (b := 2) (by decide) (by decide) (by decide)⟩
  · exact ⟨1, (0, 1), (1, 2), rfl, rfl, .inr rfl, .inl rfl, ConnE.edge (a := 0) (b := 2) (by decide) (by decide) (by decide)⟩
  · exact ⟨2, (0, 2), (1, 2), rfl, rfl, .inr rfl, .inr rfl, ConnE.edge (a := 0) (b := 1) (by decide) (by decide) (by decide)⟩
  · exact ⟨3, (3, 4), (3, 5), rfl, rfl, .inl rfl, .inl rfl, ConnE.edge (a := 4) (b := 5) (by decide) (by decide) (by decide)⟩
  · exact ⟨4, (3, 4), (4, 5), rfl, rfl, .inr rfl, .inl rfl, ConnE.edge (a := 3) (b := 5) (by decide) (by decide) (by decide)⟩
  · exact ⟨5, (3, 5), (4, 5), rfl, rfl, .inr rfl, .inr rfl, ConnE.edge (a := 3) (b := 4) (by decide) (by decide) (by decide)⟩
theorem shut2 : ShutE ex9 2 (fun x => 3 ≤ x) := fun a b hab h1 h2 => by
  simp only [ex9, List.mem_cons, List.not_mem_nil, or_false, Prod.mk.injEq] at hab
  omega
theorem shut3 : ShutE ex9 3 (fun x => 4 ≤ x) := fun a b hab h1 h2 => by
  simp only [ex9, List.mem_cons, List.not_mem_nil, or_false, Prod.mk.injEq] at hab
  omega
theorem apart9 {i k u : Nat} (hik : i < k) (hk : k < ex9.length) (hp : PairE ex9 u i k) : ((i : Int), (k : Int)) ∈ js9 := by
  obtain ⟨p, q, hp, hq, h1, h2, h3⟩ := hp
  have hi : i < ex9.length := by omega
  rcases seven hi with rfl | rfl | rfl | rfl | rfl | rfl | rfl <;> rcases seven hk with rfl | rfl | rfl | rfl | rfl | rfl | rfl
  all_goals first
    | (exfalso; omega)
    | decide
    | skip
  all_goals
    obtain rfl := Option.some.inj hp
    obtain rfl := Option.some.inj hq
    dsimp only at h1 h2
    exfalso
    first
      | omega
      | (obtain rfl : u = 2 := by omega
         have := h3 _ shut2
         revert this
         decide)
      | (obtain rfl : u = 3 := by omega
         have := h3 _ shut3
         revert this
         decide)

theorem mB_ex {s : St} (h : VF 7 ex9 s) {e : Nat} (he : e < ex9.length) : tab9 e = mB ex9 s e :=
  mB_one norm9 (fun _ _ hi hk => gen_blocks ex9_val h gen9 (fun a b ha hb hab => by
    obtain ⟨u, hp⟩ := pairs9 ha hb hab
    exact ⟨u, (pairE_iff ex9_val h ha hb).1 hp⟩) (fun a b hab hb hp => by
    obtain ⟨u, hp⟩ := hp
    exact apart9 hab hb ((pairE_iff ex9_val h (by omega) hb).2 hp)) hi hk) he

section
variable {es : List (Int × Int)} {f : Nat → Nat}
def hitC (es : List (Int × Int)) (f : Nat → Nat) (x : Int) (k : Nat) : Bool := (List.range es.length).any fun i => decide (f i = k) && (decide ((es.getD i (0, 0)).1 = x) || decide ((es.getD i (0, 0)).2 = x))
open Classical in
theorem hitB_eq (x : Int) (k : Nat) : hitB es f x k es.length = hitC es f x k := by
  rw [Bool.eq_iff_iff]
  unfold hitB hitC hitTo
  rw [decide_eq_true_iff, List.any_eq_true]
  constructor
  · rintro ⟨i, p, h1, h2, h3, h4⟩
    refine ⟨i, List.mem_range.2 h1, ?_⟩
    rw [List.getD_eq_getElem?_getD, h2]
    simp [h3, h4]
  · rintro ⟨i, h1, h2⟩
    have h1 := List.mem_range.1 h1
    obtain ⟨p, hp⟩ := edge_of (es := es) h1
    rw [List.getD_eq_getElem?_getD, hp] at h2
    simp at h2
    exact ⟨i, p, h1, hp, h2⟩
def loneC (f : Nat → Nat) (i E : Nat) : Bool := (List.range E).all fun k => decide (k = i) || decide (f k ≠ f i)
open Classical in
theorem lone_eq (i E : Nat) : lone f i E = loneC f i E := by
  rw [Bool.eq_iff_iff]
  unfold lone loneC
  rw [decide_eq_true_iff, List.all_eq_true]
  unfold Lone
  constructor
  · intro h k hk
    by_cases e : k = i
    · simp [e]
    · simp [h k (List.mem_range.1 hk) e]
  · intro h k hk e
    have := h k (List.mem_range.2 hk)
    simpa [e] using this
end

section
variable {s : St} (h : VF 7 ex9 s)
include h
theorem num9 {e : Nat} (he : e < ex9.length) : numB (mB ex9 s) e = numB tab9 e := (numB_congr mB_norm (fun _ hi => mB_ex h hi) he).symm
theorem cnt9 : cntB (mB ex9 s) ex9.length = 3 := (cntB_congr fun _ hi => (mB_ex h hi).symm).trans (by decide)
theorem nums9 : nums ex9.length (numB (mB ex9 s)) = [0, 0, 0, 1, 2, 2, 2] := (nums_congr fun _ hi => num9 h hi).trans (by decide)
theorem cuts9 : cutsTo ex9 (numB (mB ex9 s)) (cntB (mB ex9 s) ex9.length) 7 = [2, 3] := by
  rw [cnt9 h, cutsTo_congr (fun _ hi => num9 h hi)]
  unfold cutsTo inB
  simp only [hitB_eq]
  decide
theorem br9 : brTo (numB (mB ex9 s)) ex9.length ex9.length = [3] := by
  rw [brTo_congr (fun _ hi => num9 h hi) _ (Nat.le_refl _)]
  unfold brTo
  simp only [lone_eq]
  decide
theorem vs9 : vsTo ex9 (numB (mB ex9 s)) 2 7 = [3, 4, 5] := by
  rw [vsTo_congr (fun _ hi => num9 h hi)]
  unfold vsTo
  simp only [hitB_eq]
  decide
theorem bk9 : bkTo ex9 (numB (mB ex9 s)) [3, 4, 5] 2 ex9.length = [(0, 1), (0, 2), (1, 2)] := by
  rw [bkTo_congr (fun _ hi => num9 h hi)]
  decide
end
end Bl
end Go.Proofs.Ytalfpbalekbinaa

/-
  The document's own SameInts.
-/
namespace Go.Proofs.Ytalfpbalekbinaa
open Go.RowKit

set_option maxRecDepth 100000 in
set_option maxHeartbeats 4000000 in
theorem sameints_any (ao bo : Option Addr) (ca cb n m : Nat) (l l' : List Int) (w : World) (hn : l.length = n) (hm : l'.length = m) (ha : IntsAt w ao l) (hb : IntsAt w bo l') (hl : n ≤ 4611686018427387904) :
    Calls Try.prog 12 #[.slice ao n ca, .slice bo m cb] w fun e w' => e = .returned (.bool (decide (l = l'))) ∧ Below w.heap.size w w' := by
  have HA := Nu.hid ha
  have HB := Nu.hid hb
  have HN := Nu.hid hn
  have HM := Nu.hid hm
  clear ha hb
  by_cases hll : n = m
  · have j1 : ((n : Int) != (m : Int)) = false := by simp [hll]
    have HLL := Nu.hid hll
    have hnm : (n : Int) = (m : Int) := by omega
    clear hll hn hm
    go_enter Try.func12, Try.ntmps12
    have HNM := Nu.hid hnm
    clear hnm
    go_wp2
    go_loopw [5] (fun c wr => ∃ k : Nat, k ≤ n ∧ c = .int .i64 k ∧ (∀ j, j < k → l[j]? = l'[j]?) ∧ Below w.heap.size w wr) (fun c _ => n - (intOf c).toNat)
    case atStart => exact ⟨0, Nat.zero_le _, rfl, fun j h => by omega, Below.refl _ _⟩
    case round =>
      obtain ⟨k, hk, rfl, hsame, hbw⟩ := hrel
      have HSAME := Nu.hid hsame
      have HBW := Nu.hid hbw
      clear hsame
      by_cases hlt : k < n
      · have hlti : (k : Int) < (n : Int) := by omega
        have hk0 : (0 : Int) ≤ (k : Int) := by omega
        have hlm : (k : Int) < (m : Int) := by have := HNM.out; omega
        obtain ⟨x, hx⟩ : ∃ x, l[k]? = some x := ⟨_, List.getElem?_eq_getElem (by have := HN.out; omega)⟩
        obtain ⟨y, hy⟩ : ∃ y, l'[k]? = some y := ⟨_, List.getElem?_eq_getElem (by have := HM.out; omega)⟩
        obtain ⟨b, o, rfl, c0⟩ := (HA.out.later hbw) k x hx
        obtain ⟨b', o', rfl, d0⟩ := (HB.out.later hbw) k y hy
        have hbl : b < wr.heap.size := block_lt_of_cell c0
        have hbl' : b' < wr.heap.size := block_lt_of_cell d0
        have HX := Nu.hid hx
        have HY := Nu.hid hy
        clear hx hy hbw
        by_cases e1 : x = y
        · have t1 : (x != y) = false := by simp [e1]
          have HXY := Nu.hid e1
          clear e1
          go_wp2_with fail
          go_quiet (fail)
          go_wp2
          go_roundw
          case rel =>
            refine ⟨k + 1, by omega, by go_num, fun j hj => ?_, below_drewN HBW.out _⟩
            by_cases hjk : j = k
            · subst hjk; rw [HX.out, HY.out, HXY.out]
            · exact HSAME.out j (by omega)
          case measure => simp [intOf]; omega
        · have t1 : (x != y) = true := by simp [e1]
          have hv : decide (l = l') = false := by
            simp only [decide_eq_false_iff_not]
            intro h
            rw [h, HY.out] at HX
            cases HX.out
            exact e1 rfl
          have HV := Nu.hid hv
          clear hv
          go_wp2_with fail
          go_quiet (fail)
          go_wp2
          go_ret
          exact ⟨by rw [HV.out]; rfl, below_drewN HBW.out _⟩
      · have hd : ¬ ((k : Int) < (n : Int)) := by omega
        have hv : decide (l = l') = true := by
          simp only [decide_eq_true_eq]
          refine List.ext_getElem? fun j => ?_
          by_cases hj : j < k
          · exact HSAME.out j hj
          · rw [List.getElem?_eq_none (by have := HN.out; omega), List.getElem?_eq_none (by have := HM.out; have := HLL.out; omega)]
        have HV := Nu.hid hv
        clear hv hbw
        go_wp2
        go_ret
        exact ⟨by rw [HV.out]; rfl, HBW.out⟩
  · have j1 : ((n : Int) != (m : Int)) = true := by simp; omega
    have hv : decide (l = l') = false := by
      simp only [decide_eq_false_iff_not]
      intro h
      rw [h] at hn
      omega
    rw [hv]
    clear hll hn hm hv
    go_enter Try.func12, Try.ntmps12
    go_wp2
    go_ret
    exact ⟨rfl, Below.refl _ _⟩

end Go.Proofs.Ytalfpbalekbinaa

/-
  The document's example; what the law asks of it.
-/
namespace Go.Proofs.Ytalfpbalekbinaa
open Go.RowKit

/-- The example lies at b. -/
theorem ex9_edges {w : World} {b : Nat} (h : EdgesBlk w b Bl.ex9) : EdgesAt w (some ⟨b, 0, none⟩) Bl.ex9 := fun j p hj => by
  refine ⟨b, 0, rfl, ?_⟩
  rw [Nat.zero_add]
  exact h.cells hj

set_option maxRecDepth 100000 in
set_option maxHeartbeats 16000000 in
theorem example_any (w : World) : Calls Try.prog 25 #[] w fun e w' => ∃ b, e = .returned (.agg #[.int .i64 7, .slice (some ⟨b, 0, none⟩) 7 7]) ∧ EdgesAt w' (some ⟨b, 0, none⟩) Bl.ex9 ∧ Below w.heap.size w w' := by
  go_enter Try.func25, Try.ntmps25
  go_wp2
  refine bodyPost_ret (v := .agg #[.int .i64 7, .slice (some ⟨w.heap.size + 1, 0, none⟩) 7 7]) (by simp [results, Try.results25, go_sem]) rfl ?_
  refine ⟨w.heap.size + 1, rfl, ex9_edges ?_, ((Below.refl _ _).alloc (Nat.le_refl _) _).alloc (by simp) _⟩
  have := heap_alloc_new (w.alloc (.cells #[.int .i64 7, .slice (some ⟨w.heap.size + 1, 0, none⟩) 7 7] 24)) (.cells (flatE Bl.ex9).toArray 49)
  rw [World.size_alloc] at this
  exact this

theorem same_new {ao : Option Addr} {c k : Nat} {l : List Int} {W : World} (V : World) (hk : l.length = k) (h : IntsAt W ao l) (hb : Below W.heap.size W V) (hl : k ≤ 1000) :
    Calls Try.prog 12 #[.slice ao k c, .slice (some ⟨V.heap.size, 0, none⟩) k k] (V.alloc (.cells (l.map (Value.int .i64)).toArray 3)) fun e w' => e = .returned (.bool true) ∧ Below V.heap.size V w' := by
  have hb1 : Below V.heap.size V (V.alloc (.cells (l.map (Value.int .i64)).toArray 3)) := (Below.refl _ _).alloc (Nat.le_refl _) _
  have hi : IntsBlk (V.alloc (.cells (l.map (Value.int .i64)).toArray 3)) V.heap.size l := heap_alloc_new V _
  refine (sameints_any ao (some ⟨V.heap.size, 0, none⟩) c k k k l l _ hk hk ((h.later hb).later hb1) hi.at (by omega)).mono ?_
  rintro e w' ⟨h1, h2⟩
  exact ⟨by rw [h1]; simp, hb1.trans (h2.mono hb1.size)⟩

section
variable {W : World} {b : Nat} (he : EdgesAt W (some ⟨b, 0, none⟩) Bl.ex9)
include he
theorem exOf : Calls Try.prog 9 #[.agg #[.int .i64 7, .slice (some ⟨b, 0, none⟩) 7 7]] W fun e w' => ∃ go, e = .returned (.tuple #[.slice (some ⟨go, 0, none⟩) 7 7, .int .i64 3, .int .i64 0]) ∧ IntsAt w' (some ⟨go, 0, none⟩) [0, 0, 0, 1, 2, 2, 2] ∧ Below W.heap.size W w' :=
  (pof9_yes 7 (some ⟨b, 0, none⟩) 7 Bl.ex9 W he Bl.ex9_val).mono (by
    rintro e w' ⟨s, go, hvf, h1, h2, h3, h4⟩
    rw [Bl.cnt9 hvf] at h1
    rw [Bl.nums9 hvf] at h2
    exact ⟨go, h1, h2.at, h4⟩)
theorem exCuts : Calls Try.prog 13 #[.agg #[.int .i64 7, .slice (some ⟨b, 0, none⟩) 7 7]] W fun e w' => ∃ a c, e = .returned (.tuple #[.slice a 2 c, .int .i64 0]) ∧ IntsAt w' a [2, 3] ∧ Below W.heap.size W w' :=
  (pcuts9_yes 7 (some ⟨b, 0, none⟩) 7 Bl.ex9 W he Bl.ex9_val).mono (by
    rintro e w' ⟨s, v, hvf, h1, h2, h4⟩
    dsimp only at h2
    rw [Bl.cuts9 hvf] at h2
    obtain ⟨a, c, e1, h3, _⟩ := h2.form
    subst e1
    exact ⟨a, c, h1, h3, h4⟩)
theorem exBridges : Calls Try.prog 15 #[.agg #[.int .i64 7, .slice (some ⟨b, 0, none⟩) 7 7]] W fun e w' => ∃ a c, e = .returned (.tuple #[.slice a 1 c, .int .i64 0]) ∧ IntsAt w' a [3] ∧ Below W.heap.size W w' :=
  (pbridges9_yes 7 (some ⟨b, 0, none⟩) 7 Bl.ex9 W he Bl.ex9_val).mono (by
    rintro e w' ⟨s, v, hvf, h1, h2, h4⟩
    dsimp only at h2
    rw [Bl.br9 hvf] at h2
    obtain ⟨a, c, e1, h3, _⟩ := h2.form
    subst e1
    exact ⟨a, c, h1, h3, h4⟩)
theorem exBlock : Calls Try.prog 17 #[.agg #[.int .i64 7, .slice (some ⟨b, 0, none⟩) 7 7], .int .i64 2] W fun e w' => ∃ g a c, e = .returned (.tuple #[.agg #[.int .i64 3, .slice (some ⟨g, 0, none⟩) 3 3], .slice a 3 c, .int .i64 0]) ∧ IntsAt w' a [3, 4, 5] ∧ Below W.heap.size W w' :=
  (pblock9_yes 7 2 (some ⟨b, 0, none⟩) 7 Bl.ex9 W he Bl.ex9_val).mono (by
    rintro e w' (⟨kk, hk, s, g, v, hvf, h0, h1, h2, h3, _, _, h4⟩ | ⟨s, hvf, h1, _⟩)
    · obtain rfl : kk = 2 := by omega
      rw [show ((2 : Nat) : Int) = 2 from rfl] at h1 h3
      rw [Bl.vs9 hvf] at h3
      rw [Bl.vs9 hvf, Bl.bk9 hvf] at h1
      obtain ⟨a, c, e1, h5, _⟩ := h3.form
      subst e1
      exact ⟨g, a, c, h1, h5, h4⟩
    · rw [Bl.cnt9 hvf] at h1
      exact absurd h1 (by decide))
end

set_option maxRecDepth 100000 in
set_option maxHeartbeats 16000000 in
theorem wakes_any (w : World) : Calls Try.prog 8 #[] w fun e w' => e = .returned (.bool true) ∧ Below w.heap.size w w' := by
  have HEX : Hid (∀ W, Below w.heap.size w W → Calls Try.prog 25 #[] W fun e w' => ∃ b, e = .returned (.agg #[.int .i64 7, .slice (some ⟨b, 0, none⟩) 7 7]) ∧ EdgesAt w' (some ⟨b, 0, none⟩) Bl.ex9 ∧ Below W.heap.size W w' ∧ Below w.heap.size w w') := fun W hW => (example_any W).mono (by
    rintro e w' ⟨b, h1, h2, h3⟩
    exact ⟨b, h1, h2, h3, hW.trans (h3.mono hW.size)⟩)
  have hbr : Below w.heap.size w w := Below.refl _ _
  go_enter Try.func8, Try.ntmps8
  go_wp2_with (first
    | (go_at_call 25; refine (HEX.out _ hbr).mono ?_; rintro e w1 ⟨b1, rfl, he1, hb1, hbr⟩; have HE := Nu.hid he1; clear he1)
    | (go_at_call 9; refine (exOf HE.out).mono ?_; rintro e w2 ⟨go, rfl, hi, hb2⟩; have HI1 := Nu.hid hi; have HB2 := Nu.hid (hbr.trans (hb2.mono hbr.size)); clear hi; refine Hid.out ?_))
  refine Nu.hid ?_
  clear hb1 hb2 hbr HE
  go_wp2_with (first
    | (go_at_call 25; refine (HEX.out _ HB2.out).mono ?_; rintro e w3 ⟨b3, rfl, he3, hb3, hbr⟩; have HE := Nu.hid he3; clear he3)
    | (go_at_call 13; refine (exCuts HE.out).mono ?_; rintro e w4 ⟨a4, c4, rfl, hi, hb4⟩; have HI2 := Nu.hid hi; have HB4 := Nu.hid (hbr.trans (hb4.mono hbr.size)); clear hi; refine Hid.out ?_))
  refine Nu.hid ?_
  have hb24 := hb3.trans (hb4.mono hb3.size)
  have HI14 := Nu.hid (HI1.out.later hb24)
  clear hb3 hb4 hbr HE hb24 HI1
  go_wp2_with (first
    | (go_at_call 25; refine (HEX.out _ HB4.out).mono ?_; rintro e w5 ⟨b5, rfl, he5, hb5, hbr⟩; have HE := Nu.hid he5; clear he5)
    | (go_at_call 15; refine (exBridges HE.out).mono ?_; rintro e w6 ⟨a6, c6, rfl, hi, hb6⟩; have HI3 := Nu.hid hi; have HB6 := Nu.hid (hbr.trans (hb6.mono hbr.size)); clear hi; refine Hid.out ?_))
  refine Nu.hid ?_
  have hb46 := hb5.trans (hb6.mono hb5.size)
  have HI16 := Nu.hid (HI14.out.later hb46)
  have HI26 := Nu.hid (HI2.out.later hb46)
  clear hb5 hb6 hbr HE hb46 HI14 HI2
  go_wp2_with (first
    | (go_at_call 25; refine (HEX.out _ HB6.out).mono ?_; rintro e w7 ⟨b7, rfl, he7, hb7, hbr⟩; have HE := Nu.hid he7; clear he7)
    | (go_at_call 17; refine (exBlock HE.out).mono ?_; rintro e w8 ⟨g8, a8, c8, rfl, hi, hb8⟩; have HI48 := Nu.hid hi; have HB8 := Nu.hid (hbr.trans (hb8.mono hbr.size)); clear hi; refine Hid.out ?_))
  refine Nu.hid ?_
  have hb68 := hb7.trans (hb8.mono hb7.size)
  have HI18 := Nu.hid (HI16.out.later hb68)
  have HI28 := Nu.hid (HI26.out.later hb68)
  have HI38 := Nu.hid (HI3.out.later hb68)
  clear hb7 hb8 hbr HE hb68 HI16 HI26 HI3
  have hx : Below w8.heap.size w8 (w8.alloc (.cells #[.int .i64 3, .slice (some ⟨g8, 0, none⟩) 3 3] 24)) := (Below.refl _ _).alloc (Nat.le_refl _) _
  have HS1 : Hid (Calls Try.prog 12 #[.slice (some ⟨go, 0, none⟩) 7 7, .slice (some ⟨w8.heap.size + 1, 0, none⟩) 7 7] ((w8.alloc (.cells #[.int .i64 3, .slice (some ⟨g8, 0, none⟩) 3 3] 24)).alloc (.cells #[.int .i64 0, .int .i64 0, .int .i64 0, .int .i64 1, .int .i64 2, .int .i64 2, .int .i64 2] 3)) fun e w' => e = .returned (.bool true) ∧ Below w8.heap.size w8 w') := by
    have := same_new (c := 7) (k := 7) _ rfl HI18.out hx (by omega)
    rw [World.size_alloc] at this
    refine this.mono ?_
    rintro e w' ⟨h1, h2⟩
    exact ⟨h1, hx.trans (h2.mono (by omega))⟩
  have HS2 : Hid (∀ V, Below w8.heap.size w8 V → Calls Try.prog 12 #[.slice a4 2 c4, .slice (some ⟨V.heap.size, 0, none⟩) 2 2] (V.alloc (.cells #[.int .i64 2, .int .i64 3] 3)) fun e w' => e = .returned (.bool true) ∧ Below w8.heap.size w8 w') := fun V hV => (same_new (c := c4) (k := 2) V rfl HI28.out hV (by omega)).mono (by
    rintro e w' ⟨h1, h2⟩
    exact ⟨h1, hV.trans (h2.mono hV.size)⟩)
  have HS3 : Hid (∀ V, Below w8.heap.size w8 V → Calls Try.prog 12 #[.slice a6 1 c6, .slice (some ⟨V.heap.size, 0, none⟩) 1 1] (V.alloc (.cells #[.int .i64 3] 3)) fun e w' => e = .returned (.bool true) ∧ Below w8.heap.size w8 w') := fun V hV => (same_new (c := c6) (k := 1) V rfl HI38.out hV (by omega)).mono (by
    rintro e w' ⟨h1, h2⟩
    exact ⟨h1, hV.trans (h2.mono hV.size)⟩)
  have HS4 : Hid (∀ V, Below w8.heap.size w8 V → Calls Try.prog 12 #[.slice a8 3 c8, .slice (some ⟨V.heap.size, 0, none⟩) 3 3] (V.alloc (.cells #[.int .i64 3, .int .i64 4, .int .i64 5] 3)) fun e w' => e = .returned (.bool true) ∧ Below w8.heap.size w8 w') := fun V hV => (same_new (c := c8) (k := 3) V rfl HI48.out hV (by omega)).mono (by
    rintro e w' ⟨h1, h2⟩
    exact ⟨h1, hV.trans (h2.mono hV.size)⟩)
  clear hx
  go_wp2_with (go_at_call 12; refine HS1.out.mono ?_; rintro e w9 ⟨rfl, hb9⟩; refine Hid.out ?_)
  refine Nu.hid ?_
  go_wp2_with (go_at_call 12; refine (HS2.out _ hb9).mono ?_; rintro e w10 ⟨rfl, hb10⟩; refine Hid.out ?_)
  refine Nu.hid ?_
  go_wp2_with (go_at_call 12; refine (HS3.out _ hb10).mono ?_; rintro e w11 ⟨rfl, hb11⟩; refine Hid.out ?_)
  refine Nu.hid ?_
  go_wp2_with (go_at_call 12; refine (HS4.out _ hb11).mono ?_; rintro e w12 ⟨rfl, hb12⟩; refine Hid.out ?_)
  refine Nu.hid ?_
  have HB12 := Nu.hid (HB8.out.trans (hb12.mono HB8.out.size))
  clear hb9 hb10 hb11 hb12
  go_wp2
  go_ret
  exact ⟨rfl, HB12.out⟩
end Go.Proofs.Ytalfpbalekbinaa
