import Derived.Test.YtalfpbalekbinaaMg29
import Derived.Test.YtalfpbalekbinaaMg25
import Derived.Test.YtalfpbalekbinaaMg34
/-
  The document's In: how many blocks a vertex is in.
-/
namespace Go.Proofs.Ytalfpbalekbinaa
open Go.RowKit Go.Sort

namespace Bl
/-- One of the first j edges is of block k and ends at v. -/
def hitTo (es : List (Int × Int)) (f : Nat → Nat) (v : Int) (k j : Nat) : Prop := ∃ (i : Nat) (p : Int × Int), i < j ∧ es[i]? = some p ∧ f i = k ∧ (p.1 = v ∨ p.2 = v)
open Classical in
noncomputable def hitB (es : List (Int × Int)) (f : Nat → Nat) (v : Int) (k j : Nat) : Bool := decide (hitTo es f v k j)
noncomputable def inB (es : List (Int × Int)) (f : Nat → Nat) (v : Int) (n : Nat) : Nat := Co.cntTo (fun k => hitB es f v k es.length) n
theorem inB_le (es : List (Int × Int)) (f : Nat → Nat) (v : Int) (n : Nat) : inB es f v n ≤ n := Co.cntTo_le _ n
theorem inB_yes {es : List (Int × Int)} {f : Nat → Nat} {v : Int} {k : Nat} (h : hitB es f v k es.length = true) : inB es f v (k + 1) = inB es f v k + 1 := by
  unfold inB
  rw [Co.cntTo, if_pos h]
theorem inB_no {es : List (Int × Int)} {f : Nat → Nat} {v : Int} {k : Nat} (h : hitB es f v k es.length = false) : inB es f v (k + 1) = inB es f v k := by
  unfold inB
  rw [Co.cntTo, if_neg (by rw [h]; simp)]
  rfl
open Classical in
theorem hitB_zero (es : List (Int × Int)) (f : Nat → Nat) (v : Int) (k : Nat) : hitB es f v k 0 = false := decide_eq_false fun ⟨i, p, h, _⟩ => by omega
open Classical in
theorem hitB_yes {es : List (Int × Int)} {f : Nat → Nat} {v : Int} {k j : Nat} {p : Int × Int} (hp : es[j]? = some p) (h1 : f j = k) (h2 : p.1 = v ∨ p.2 = v) : hitB es f v k (j + 1) = true := decide_eq_true ⟨j, p, by omega, hp, h1, h2⟩
open Classical in
theorem hitB_no {es : List (Int × Int)} {f : Nat → Nat} {v : Int} {k j : Nat} {p : Int × Int} (hp : es[j]? = some p) (h : ¬ (f j = k ∧ (p.1 = v ∨ p.2 = v))) : hitB es f v k (j + 1) = hitB es f v k j := by
  unfold hitB
  rw [Bool.eq_iff_iff, decide_eq_true_iff, decide_eq_true_iff]
  constructor
  · rintro ⟨i, q, a, b, c, d⟩
    by_cases e : i = j
    · subst e
      rw [hp] at b
      cases b
      exact absurd ⟨c, d⟩ h
    · exact ⟨i, q, by omega, b, c, d⟩
  · rintro ⟨i, q, a, b, c, d⟩
    exact ⟨i, q, by omega, b, c, d⟩
end Bl

set_option maxRecDepth 100000 in
set_option maxHeartbeats 16000000 in
theorem in9_any (N : Int) (ao : Option Addr) (cap : Nat) (es : List (Int × Int)) (no : Option Addr) (nc : Nat) (f : Nat → Nat) (n : Nat) (v : Int) (w : World) (he : EdgesAt w ao es) (hfew : es.length ≤ 4194304) (hn : n ≤ 4194304) (hno : IntsAt w no (Bl.nums es.length f)) :
    Calls Try.prog 30 #[graphVal N ao es.length cap, .slice no es.length nc, .int .i64 (n : Int), .int .i64 v] w fun e w' => e = .returned (.int .i64 (Bl.inB es f v n : Int)) ∧ Below w.heap.size w w' := by
  have HE := Nu.hid he
  have HNO := Nu.hid hno
  unfold graphVal
  clear he hno
  have hbw0 : Below w.heap.size w (w.alloc (.cells #[.int .i64 N, .slice ao es.length cap] 24)) := (Below.refl _ _).alloc (Nat.le_refl _) _
  have hG : (w.alloc (.cells #[.int .i64 N, .slice ao es.length cap] 24)).heap[w.heap.size]? = some (.cells #[.int .i64 N, .slice ao es.length cap] 24 (0, 0)) := heap_alloc_new w _
  have HB1 := Nu.hid hbw0
  have HG1 := Nu.hid hG
  clear hbw0 hG
  go_enter Try.func30, Try.ntmps30
  go_wp2
  go_loopw [9, 10] (fun cn cv wr => ∃ k : Nat, k ≤ n ∧ cv = .int .i64 (k : Int) ∧ cn = .int .i64 (Bl.inB es f v k : Int) ∧ wr.heap[w.heap.size]? = some (.cells #[.int .i64 N, .slice ao es.length cap] 24 (0, 0)) ∧ Below w.heap.size w wr) (fun _ cv _ => n - (intOf cv).toNat)
  case atStart => exact ⟨0, Nat.zero_le _, rfl, rfl, HG1.out, HB1.out⟩
  case round =>
    obtain ⟨k, hk, rfl, rfl, hg, hb⟩ := hrel
    have HG := Nu.hid hg
    have HB := Nu.hid hb
    have hil := Bl.inB_le es f v k
    clear hg hb
    by_cases hkn : k < n
    · have hlti : (k : Int) < (n : Int) := by omega
      go_wp2
      go_loopw [11, 12] (fun ch cv wr => ∃ j : Nat, j ≤ es.length ∧ cv = .int .i64 (j : Int) ∧ ch = .bool (Bl.hitB es f v k j) ∧ wr.heap[w.heap.size]? = some (.cells #[.int .i64 N, .slice ao es.length cap] 24 (0, 0)) ∧ Below w.heap.size w wr) (fun _ cv _ => es.length - (intOf cv).toNat)
      case atStart => exact ⟨0, Nat.zero_le _, rfl, by rw [Bl.hitB_zero], HG.out, HB.out⟩
      case round =>
        clear HG HB
        obtain ⟨j, hj, rfl, rfl, hg, hb⟩ := hrel
        have HG := Nu.hid hg
        have HB := Nu.hid hb
        by_cases hjn : j < es.length
        · have hljn : (j : Int) < (es.length : Int) := by omega
          have hj0 : (0 : Int) ≤ (j : Int) := by omega
          obtain ⟨⟨p1, p2⟩, hq⟩ : ∃ q, es[j]? = some q := ⟨_, List.getElem?_eq_getElem hjn⟩
          obtain ⟨b, o, rfl, -, -⟩ := HE.out j _ hq
          obtain ⟨c0, c1⟩ := (HE.out.later hb).two hq
          obtain ⟨x0, x1, -⟩ := pair_cells hg
          clear hg hb
          by_cases hh : p1 = v ∨ p2 = v
          · go_wp2_with (go_at_call 34; refine (at9_yes hh _).mono ?_; rintro e wF ⟨rfl, hbF⟩; refine Hid.out ?_)
            refine Nu.hid ?_
            have HGF := Nu.hid ((hbF.block _ (lt_of_block HG.out)).trans HG.out)
            have HBF := Nu.hid (HB.out.trans (hbF.mono HB.out.size))
            obtain ⟨nb, no', rfl, d0⟩ := (HNO.out.later HBF.out) j _ (Bl.nums_at (f := f) hjn)
            clear hbF x0 x1 c0 c1
            by_cases hf : f j = k
            · have hd : ((f j : Int) == (k : Int)) = true := by simp [hf]
              have HY := Nu.hid (Bl.hitB_yes hq hf hh)
              clear hf hh hq
              go_wp2
              go_roundw
              case rel => exact ⟨j + 1, by omega, by go_num, by rw [HY.out], HGF.out, HBF.out⟩
              case measure => simp [intOf]; omega
            · have hd : ((f j : Int) == (k : Int)) = false := by simp; omega
              have HY := Nu.hid (Bl.hitB_no (f := f) (v := v) (k := k) hq (fun h => hf h.1))
              clear hf hh hq
              go_wp2
              go_roundw
              case rel => exact ⟨j + 1, by omega, by go_num, by rw [HY.out], HGF.out, HBF.out⟩
              case measure => simp [intOf]; omega
          · go_wp2_with (go_at_call 34; refine (at9_no hh _).mono ?_; rintro e wF ⟨rfl, hbF⟩; refine Hid.out ?_)
            refine Nu.hid ?_
            have HGF := Nu.hid ((hbF.block _ (lt_of_block HG.out)).trans HG.out)
            have HBF := Nu.hid (HB.out.trans (hbF.mono HB.out.size))
            obtain ⟨nb, no', rfl, d0⟩ := (HNO.out.later HBF.out) j _ (Bl.nums_at (f := f) hjn)
            have HY := Nu.hid (Bl.hitB_no (f := f) (v := v) (k := k) hq (fun h => hh h.2))
            clear hbF x0 x1 c0 c1 hh hq
            by_cases hf : f j = k
            · have hd : ((f j : Int) == (k : Int)) = true := by simp [hf]
              clear hf
              go_wp2
              go_roundw
              case rel => exact ⟨j + 1, by omega, by go_num, by rw [HY.out], HGF.out, HBF.out⟩
              case measure => simp [intOf]; omega
            · have hd : ((f j : Int) == (k : Int)) = false := by simp; omega
              clear hf
              go_wp2
              go_roundw
              case rel => exact ⟨j + 1, by omega, by go_num, by rw [HY.out], HGF.out, HBF.out⟩
              case measure => simp [intOf]; omega
        · have hljn : ¬ (j : Int) < (es.length : Int) := by omega
          obtain rfl : j = es.length := by omega
          clear hg hb
          cases hh : Bl.hitB es f v k es.length with
          | true =>
            have HY := Nu.hid (Bl.inB_yes hh)
            clear hh
            go_wp2
            go_roundw
            case rel => exact ⟨k + 1, by omega, by go_num, by rw [HY.out]; go_num, HG.out, HB.out⟩
            case measure => simp [intOf]; omega
          | false =>
            have HY := Nu.hid (Bl.inB_no hh)
            clear hh
            go_wp2
            go_roundw
            case rel => exact ⟨k + 1, by omega, by go_num, by rw [HY.out], HG.out, HB.out⟩
            case measure => simp [intOf]; omega
    · have hlti : ¬ (k : Int) < (n : Int) := by omega
      obtain rfl : k = n := by omega
      go_wp2
      go_ret
      exact ⟨rfl, HB.out⟩
end Go.Proofs.Ytalfpbalekbinaa

/-
  The document's Cuts.
-/
namespace Go.Proofs.Ytalfpbalekbinaa
open Go.RowKit Go.Sort

namespace Bl
/-- The vertices below k that are in more than one block. -/
noncomputable def cutsTo (es : List (Int × Int)) (f : Nat → Nat) (c k : Nat) : List Int := ((List.range k).filter fun v : Nat => decide (1 < inB es f (v : Int) c)).map fun v : Nat => (v : Int)
theorem cutsTo_yes {es : List (Int × Int)} {f : Nat → Nat} {c k : Nat} (h : 1 < inB es f (k : Int) c) : cutsTo es f c (k + 1) = cutsTo es f c k ++ [(k : Int)] := by
  unfold cutsTo
  rw [List.range_succ, List.filter_append, List.map_append, List.filter_cons_of_pos (by simpa using h)]
  rfl
theorem cutsTo_no {es : List (Int × Int)} {f : Nat → Nat} {c k : Nat} (h : ¬ 1 < inB es f (k : Int) c) : cutsTo es f c (k + 1) = cutsTo es f c k := by
  unfold cutsTo
  rw [List.range_succ, List.filter_append, List.map_append, List.filter_cons_of_neg (by simpa using h)]
  simp
theorem cutsTo_length (es : List (Int × Int)) (f : Nat → Nat) (c k : Nat) : (cutsTo es f c k).length ≤ k := by
  unfold cutsTo
  rw [List.length_map]
  exact Nat.le_trans (List.length_filter_le _ _) (by simp)
end Bl

theorem of9_yes {n : Int} {ao : Option Addr} {cap : Nat} {es : List (Int × Int)} {w : World} (he : EdgesAt w ao es) (hl : es.length ≤ 4611686018427387904) (hv : Si.valid n es = true) :
    Calls Try.prog 11 #[graphVal n ao es.length cap] w fun e w' => ∃ (m : Nat → Nat) (g : Nat), e = .returned (.tuple #[.slice (some ⟨g, 0, none⟩) es.length es.length, .int .i64 (Bl.cntB m es.length : Int), .int .i64 0]) ∧ w.heap.size ≤ g ∧ IntsBlk w' g (Bl.nums es.length (Bl.numB m)) ∧ Bl.ClE n.toNat es m (fun _ _ _ => True) ∧ Below w.heap.size w w' :=
  (of9_any n ao cap es w he hl).mono (by
    rintro e w' ⟨⟨m, g, _, h1, h2, h3, h4⟩ | ⟨h1, _⟩, hb⟩
    · exact ⟨m, g, h1, h2, h3, h4, hb⟩
    · rw [hv] at h1; cases h1)
theorem of9_no {n : Int} {ao : Option Addr} {cap : Nat} {es : List (Int × Int)} {w : World} (he : EdgesAt w ao es) (hl : es.length ≤ 4611686018427387904) (hv : Si.valid n es = false) :
    Calls Try.prog 11 #[graphVal n ao es.length cap] w fun e w' => e = .returned (.tuple #[.slice none 0 0, .int .i64 0, .int .i64 1]) ∧ Below w.heap.size w w' :=
  (of9_any n ao cap es w he hl).mono (by
    rintro e w' ⟨⟨m, g, h1, _⟩ | ⟨_, h1⟩, hb⟩
    · rw [hv] at h1; cases h1
    · exact ⟨h1, hb⟩)

def CutsPost (n : Int) (es : List (Int × Int)) (w : World) (e : Ending) (w' : World) : Prop :=
  ((∃ (m : Nat → Nat) (v : Value), Si.valid n es = true ∧ e = .returned (.tuple #[v, .int .i64 0]) ∧ Bl.ClE n.toNat es m (fun _ _ _ => True) ∧ OwnZ w' w.heap.size v (Bl.cutsTo es (Bl.numB m) (Bl.cntB m es.length) n.toNat)) ∨
    (Si.valid n es = false ∧ e = .returned (.tuple #[.slice none 0 0, .int .i64 1]))) ∧ Below w.heap.size w w'

set_option maxRecDepth 100000 in
set_option maxHeartbeats 16000000 in
theorem cuts_any (n : Int) (ao : Option Addr) (cap : Nat) (es : List (Int × Int)) (w : World) (he : EdgesAt w ao es) (hl : es.length ≤ 4611686018427387904) :
    Calls Try.prog 14 #[graphVal n ao es.length cap] w (CutsPost n es w) := by
  have HE := Nu.hid he
  unfold graphVal
  clear he
  have hbw0 : Below w.heap.size w (w.alloc (.cells #[.int .i64 n, .slice ao es.length cap] 24)) := (Below.refl _ _).alloc (Nat.le_refl _) _
  have HBW0 := Nu.hid hbw0
  clear hbw0
  cases hv : Si.valid n es with
  | false =>
    have HOF := Nu.hid (fun W (hb : Below w.heap.size w W) => of9_no (cap := cap) (HE.out.later hb) hl hv)
    unfold graphVal at HOF
    have HV := Nu.hid hv
    clear hv
    go_enter Try.func14, Try.ntmps14
    go_wp2_with (go_at_call 11; refine (HOF.out _ HBW0.out).mono ?_; rintro e w1 ⟨rfl, hb⟩; refine Hid.out ?_)
    refine Nu.hid ?_
    have HB1 := Nu.hid (HBW0.out.trans (hb.mono HBW0.out.size))
    clear hb
    go_wp2
    go_ret2
    exact ⟨.inr ⟨HV.out, rfl⟩, HB1.out⟩
  | true =>
    have HOF := Nu.hid (fun W (hb : Below w.heap.size w W) => of9_yes (cap := cap) (HE.out.later hb) hl hv)
    unfold graphVal at HOF
    go_enter Try.func14, Try.ntmps14
    go_wp2_with (go_at_call 11; refine (HOF.out _ HBW0.out).mono ?_; rintro e w1 ⟨m, g, rfl, hg, hig, hC, hb⟩; refine Hid.out ?_)
    refine Nu.hid ?_
    have hG : w1.heap[w.heap.size]? = some (.cells #[.int .i64 n, .slice ao es.length cap] 24 (0, 0)) := (hb.block _ (by simp)).trans (heap_alloc_new w _)
    have HB1 := Nu.hid (HBW0.out.trans (hb.mono HBW0.out.size))
    have HG := Nu.hid hG
    have hsG := lt_of_block hG
    clear hb hG HOF
    have HV := Nu.hid hv
    have hval := Si.valid_iff.1 hv
    have hfew := hval.few
    have hlo := hval.lo
    have hhi := hval.hi
    obtain ⟨n, rfl⟩ : ∃ m : Nat, n = (m : Int) := ⟨n.toNat, by omega⟩
    have HC := Nu.hid hC
    have HIG := Nu.hid hig
    have hcl := Bl.cntB_le m es.length
    have hgl := hig.lt
    clear hv hval hig hC hg
    go_wp2
    go_loopw [7, 8] (fun cl cv wr => ∃ k : Nat, k ≤ n ∧ cv = .int .i64 (k : Int) ∧ OwnZ wr w1.heap.size cl (Bl.cutsTo es (Bl.numB m) (Bl.cntB m es.length) k) ∧ Below w1.heap.size w1 wr) (fun _ cv _ => n - (intOf cv).toNat)
    case atStart => exact ⟨0, Nat.zero_le _, rfl, OwnZ.nil _ _, Below.refl _ _⟩
    case round =>
      obtain ⟨k, hk, rfl, hown, hb⟩ := hrel
      have HOWN := Nu.hid hown
      have HB := Nu.hid hb
      have hsz := hb.size
      have hbw := HB1.out.trans (hb.mono HB1.out.size)
      have HBW := Nu.hid hbw
      obtain ⟨x0, x1, -⟩ := pair_cells ((hb.block _ hsG).trans HG.out)
      have HNM : Hid (IntsAt wr (some ⟨g, 0, none⟩) (Bl.nums es.length (Bl.numB m))) := fun j x hj => ⟨g, 0, rfl, by rw [Nat.zero_add]; exact ((HIG.out.later hb).cell hj)⟩
      clear hown hb hbw
      by_cases hkn : k < n
      · have hlti : (k : Int) < (n : Int) := by omega
        go_wp2_with (go_at_call 30; refine (in9_any (n : Int) ao cap es (some ⟨g, 0, none⟩) es.length (Bl.numB m) (Bl.cntB m es.length) (k : Int) _ (HE.out.later HBW.out) hfew (by omega) HNM.out).mono ?_; rintro e w5 ⟨rfl, hb5⟩; refine Hid.out ?_)
        refine Nu.hid ?_
        have HO5 := Nu.hid (HOWN.out.later hb5)
        have HB5 := Nu.hid (HB.out.trans (hb5.mono hsz))
        have hsz5 := HB5.out.size
        have hcn := Bl.cutsTo_length es (Bl.numB m) (Bl.cntB m es.length) k
        clear hb5 x0 x1
        by_cases hin : 1 < Bl.inB es (Bl.numB m) (k : Int) (Bl.cntB m es.length)
        · have hini : (1 : Int) < ((Bl.inB es (Bl.numB m) (k : Int) (Bl.cntB m es.length) : Nat) : Int) := by omega
          have HY := Nu.hid (Bl.cutsTo_yes hin)
          clear hin
          go_wp2_with (at_builtin; refine wpList_push rfl _ _ rfl _ w1.heap.size _ (Bl.cutsTo es (Bl.numB m) (Bl.cntB m es.length) k) (k : Int) HO5.out hsz5 (Nat.le_trans hcn (by omega)) rfl rfl ?_; refine Hid.out ?_)
          refine Nu.hid ?_
          intro v' w6 ho6 hg6 hat6 hb6
          have HO6 := Nu.hid ho6
          have HB6 := Nu.hid (HB5.out.trans hb6)
          clear ho6 hg6 hat6 hb6
          go_wp2
          go_roundw
          case rel => exact ⟨k + 1, by omega, by go_num, by rw [HY.out]; exact HO6.out, HB6.out⟩
          case measure => simp [intOf]; omega
        · have hini : ¬ (1 : Int) < ((Bl.inB es (Bl.numB m) (k : Int) (Bl.cntB m es.length) : Nat) : Int) := by omega
          have HY := Nu.hid (Bl.cutsTo_no hin)
          clear hin
          go_wp2
          go_roundw
          case rel => exact ⟨k + 1, by omega, by go_num, by rw [HY.out]; exact HO5.out, HB5.out⟩
          case measure => simp [intOf]; omega
      · have hlti : ¬ (k : Int) < (n : Int) := by omega
        obtain rfl : k = n := by omega
        go_wp2
        go_ret2
        exact ⟨.inl ⟨m, _, HV.out, rfl, HC.out, HOWN.out.lower HB1.out.size⟩, HBW.out⟩
end Go.Proofs.Ytalfpbalekbinaa

/-
  The document's Bridges.
-/
namespace Go.Proofs.Ytalfpbalekbinaa
open Go.RowKit Go.Sort

namespace Bl
/-- No other of the first j edges is in i's block. -/
def Lone (f : Nat → Nat) (i j : Nat) : Prop := ∀ k, k < j → k ≠ i → f k ≠ f i
open Classical in
noncomputable def lone (f : Nat → Nat) (i j : Nat) : Bool := decide (Lone f i j)
open Classical in
theorem lone_zero (f : Nat → Nat) (i : Nat) : lone f i 0 = true := decide_eq_true fun k h => by omega
open Classical in
theorem lone_no {f : Nat → Nat} {i j : Nat} (h1 : j ≠ i) (h2 : f j = f i) : lone f i (j + 1) = false := decide_eq_false fun h => h j (by omega) h1 h2
open Classical in
theorem lone_same {f : Nat → Nat} {i j : Nat} (h : ¬ (j ≠ i ∧ f j = f i)) : lone f i (j + 1) = lone f i j := by
  unfold lone
  rw [Bool.eq_iff_iff, decide_eq_true_iff, decide_eq_true_iff]
  constructor
  · exact fun a k hk => a k (by omega)
  · intro a k hk hne he
    by_cases e : k = j
    · subst e
      exact h ⟨hne, he⟩
    · exact a k (by omega) hne he
/-- The edges below k that are alone in their block. -/
noncomputable def brTo (f : Nat → Nat) (E k : Nat) : List Int := ((List.range k).filter fun i : Nat => lone f i E).map fun i : Nat => (i : Int)
theorem brTo_yes {f : Nat → Nat} {E k : Nat} (h : lone f k E = true) : brTo f E (k + 1) = brTo f E k ++ [(k : Int)] := by
  unfold brTo
  rw [List.range_succ, List.filter_append, List.map_append, List.filter_cons_of_pos (p := fun i : Nat => lone f i E) h]
  rfl
theorem brTo_no {f : Nat → Nat} {E k : Nat} (h : lone f k E = false) : brTo f E (k + 1) = brTo f E k := by
  unfold brTo
  rw [List.range_succ, List.filter_append, List.map_append, List.filter_cons_of_neg (by rw [h]; simp)]
  simp
theorem brTo_length (f : Nat → Nat) (E k : Nat) : (brTo f E k).length ≤ k := by
  unfold brTo
  rw [List.length_map]
  exact Nat.le_trans (List.length_filter_le _ _) (by simp)
end Bl

def BrPost (n : Int) (es : List (Int × Int)) (w : World) (e : Ending) (w' : World) : Prop :=
  ((∃ (m : Nat → Nat) (v : Value), Si.valid n es = true ∧ e = .returned (.tuple #[v, .int .i64 0]) ∧ Bl.ClE n.toNat es m (fun _ _ _ => True) ∧ OwnZ w' w.heap.size v (Bl.brTo (Bl.numB m) es.length es.length)) ∨
    (Si.valid n es = false ∧ e = .returned (.tuple #[.slice none 0 0, .int .i64 1]))) ∧ Below w.heap.size w w'

set_option maxRecDepth 100000 in
set_option maxHeartbeats 16000000 in
theorem bridges9_any (n : Int) (ao : Option Addr) (cap : Nat) (es : List (Int × Int)) (w : World) (he : EdgesAt w ao es) (hl : es.length ≤ 4611686018427387904) :
    Calls Try.prog 16 #[graphVal n ao es.length cap] w (BrPost n es w) := by
  have HE := Nu.hid he
  unfold graphVal
  clear he
  have hbw0 : Below w.heap.size w (w.alloc (.cells #[.int .i64 n, .slice ao es.length cap] 24)) := (Below.refl _ _).alloc (Nat.le_refl _) _
  have HBW0 := Nu.hid hbw0
  clear hbw0
  cases hv : Si.valid n es with
  | false =>
    have HOF := Nu.hid (fun W (hb : Below w.heap.size w W) => of9_no (cap := cap) (HE.out.later hb) hl hv)
    unfold graphVal at HOF
    have HV := Nu.hid hv
    clear hv
    go_enter Try.func16, Try.ntmps16
    go_wp2_with (go_at_call 11; refine (HOF.out _ HBW0.out).mono ?_; rintro e w1 ⟨rfl, hb⟩; refine Hid.out ?_)
    refine Nu.hid ?_
    have HB1 := Nu.hid (HBW0.out.trans (hb.mono HBW0.out.size))
    clear hb
    go_wp2
    go_loopw [7, 8] (fun cl cv wr => cl = .slice none 0 0 ∧ cv = .int .i64 0 ∧ wr = w1) (fun _ _ _ => 0)
    case atStart => exact ⟨rfl, rfl, rfl⟩
    case round =>
      obtain ⟨rfl, rfl, hwr⟩ := hrel
      obtain rfl := hwr.symm
      clear hwr
      go_wp2
      go_ret2
      exact ⟨.inr ⟨HV.out, rfl⟩, HB1.out⟩
  | true =>
    have HOF := Nu.hid (fun W (hb : Below w.heap.size w W) => of9_yes (cap := cap) (HE.out.later hb) hl hv)
    unfold graphVal at HOF
    go_enter Try.func16, Try.ntmps16
    go_wp2_with (go_at_call 11; refine (HOF.out _ HBW0.out).mono ?_; rintro e w1 ⟨m, g, rfl, hg, hig, hC, hb⟩; refine Hid.out ?_)
    refine Nu.hid ?_
    have HB1 := Nu.hid (HBW0.out.trans (hb.mono HBW0.out.size))
    clear hb HOF
    have HV := Nu.hid hv
    have hval := Si.valid_iff.1 hv
    have hfew := hval.few
    have HC := Nu.hid hC
    have HIG := Nu.hid hig
    obtain ⟨f, hf⟩ : ∃ f, Bl.numB m = f := ⟨_, rfl⟩
    have HF := Nu.hid hf
    rw [hf] at HIG
    clear hv hval hig hC hg hf
    go_wp2
    go_loopw [7, 8] (fun cl cv wr => ∃ k : Nat, k ≤ es.length ∧ cv = .int .i64 (k : Int) ∧ OwnZ wr w1.heap.size cl (Bl.brTo f es.length k) ∧ Below w1.heap.size w1 wr) (fun _ cv _ => es.length - (intOf cv).toNat)
    case atStart => exact ⟨0, Nat.zero_le _, rfl, OwnZ.nil _ _, Below.refl _ _⟩
    case round =>
      obtain ⟨i, hi, rfl, hown, hb⟩ := hrel
      obtain ⟨wA, rfl⟩ : ∃ wA, wA = wr := ⟨wr, rfl⟩
      have HOWN := Nu.hid hown
      have HB := Nu.hid hb
      have hsz := hb.size
      have HIK := Nu.hid (HIG.out.later hb)
      clear hown hb
      by_cases hin : i < es.length
      · have hlti : (i : Int) < (es.length : Int) := by omega
        have hi0 : (0 : Int) ≤ (i : Int) := by omega
        have ci := HIK.out.cell (Bl.nums_at (f := f) hin)
        go_wp2
        go_loopw [9, 10] (fun ca cv wr => ∃ k : Nat, k ≤ es.length ∧ cv = .int .i64 (k : Int) ∧ ca = .bool (Bl.lone f i k) ∧ ∃ q, wr = wA.drewN q) (fun _ cv _ => es.length - (intOf cv).toNat)
        case atStart => exact ⟨0, Nat.zero_le _, rfl, by rw [Bl.lone_zero], 0, rfl⟩
        case round =>
          obtain ⟨k, hk, rfl, rfl, q, rfl⟩ := hrel
          have hIQ : IntsBlk (wA.drewN q) g (Bl.nums es.length f) := HIK.out
          have HIQ := Nu.hid hIQ
          clear hIQ
          have HOQ := Nu.hid (HOWN.out.later (below_drewN (Below.refl wA.heap.size wA) q))
          have HBQ := Nu.hid (below_drewN HB.out q)
          have hszq := HBQ.out.size
          by_cases hkn : k < es.length
          · have hltk : (k : Int) < (es.length : Int) := by omega
            have hk0 : (0 : Int) ≤ (k : Int) := by omega
            have ck := HIK.out.cell (Bl.nums_at (f := f) hkn)
            by_cases h1 : k = i
            · have d1 : ((k : Int) == (i : Int)) = true := by simp [h1]
              have d1' : ((k : Int) != (i : Int)) = false := by simp [h1]
              have HY := Nu.hid (Bl.lone_same (f := f) (i := i) (j := k) (fun h => h.1 h1))
              clear h1
              go_wp2_with fail
              go_quiet (fail)
              go_wp2
              go_roundw
              case rel => exact ⟨k + 1, by omega, by go_num, by rw [HY.out], _, by first | rfl | rw [World.drewN_drewN]⟩
              case measure => simp [intOf]; omega
            · have d1 : ((k : Int) == (i : Int)) = false := by simp; omega
              have d1' : ((k : Int) != (i : Int)) = true := by simp; omega
              by_cases h2 : f k = f i
              · have d2 : ((f k : Int) == (f i : Int)) = true := by simp [h2]
                have HY := Nu.hid (Bl.lone_no h1 h2)
                clear h1 h2
                go_wp2_with fail
                go_quiet (fail)
                go_wp2
                go_roundw
                case rel => exact ⟨k + 1, by omega, by go_num, by rw [HY.out], _, by first | rfl | rw [World.drewN_drewN]⟩
                case measure => simp [intOf]; omega
              · have d2 : ((f k : Int) == (f i : Int)) = false := by simp; omega
                have HY := Nu.hid (Bl.lone_same (f := f) (i := i) (j := k) (fun h => h2 h.2))
                clear h1 h2
                go_wp2_with fail
                go_quiet (fail)
                go_wp2
                go_roundw
                case rel => exact ⟨k + 1, by omega, by go_num, by rw [HY.out], _, by first | rfl | rw [World.drewN_drewN]⟩
                case measure => simp [intOf]; omega
          · have hltk : ¬ (k : Int) < (es.length : Int) := by omega
            obtain rfl : k = es.length := by omega
            have hcn := Bl.brTo_length f es.length i
            cases hh : Bl.lone f i es.length with
            | true =>
              have HY := Nu.hid (Bl.brTo_yes hh)
              clear hh
              go_wp2_with (at_builtin; refine wpList_push rfl _ _ rfl _ w1.heap.size _ (Bl.brTo f es.length i) (i : Int) HOQ.out hszq (Nat.le_trans hcn (by omega)) rfl rfl ?_; refine Hid.out ?_)
              refine Nu.hid ?_
              intro v' w6 ho6 hg6 hat6 hb6
              have HO6 := Nu.hid ho6
              have HB6 := Nu.hid (HBQ.out.trans hb6)
              clear ho6 hg6 hat6 hb6
              go_wp2
              go_roundw
              case rel => exact ⟨i + 1, by omega, by go_num, by rw [HY.out]; exact HO6.out, HB6.out⟩
              case measure => simp [intOf]; omega
            | false =>
              have HY := Nu.hid (Bl.brTo_no hh)
              clear hh
              go_wp2
              go_roundw
              case rel => exact ⟨i + 1, by omega, by go_num, by rw [HY.out]; exact HOQ.out, HBQ.out⟩
              case measure => simp [intOf]; omega
      · have hlti : ¬ (i : Int) < (es.length : Int) := by omega
        obtain rfl : i = es.length := by omega
        go_wp2
        go_ret2
        exact ⟨.inl ⟨m, _, HV.out, rfl, HC.out, by rw [HF.out]; exact HOWN.out.lower HB1.out.size⟩, HB1.out.trans (HB.out.mono HB1.out.size)⟩
end Go.Proofs.Ytalfpbalekbinaa

/-
  Blocks, pure: the blocks that a vertex is in, by the half-edges that leave it.
-/
namespace Go.Proofs.Ytalfpbalekbinaa
namespace Bl
open Df Lo

theorem cnt_two {q : Nat → Bool} : ∀ {n : Nat}, 1 < Co.cntTo q n ↔ ∃ a b, a < n ∧ b < n ∧ a ≠ b ∧ q a = true ∧ q b = true
  | 0 => ⟨fun h => by simp [Co.cntTo] at h, fun ⟨a, b, h, _⟩ => by omega⟩
  | n + 1 => by
    have ih := cnt_two (q := q) (n := n)
    have pos : 0 < Co.cntTo q n ↔ ∃ a, a < n ∧ q a = true := by
      constructor
      · intro h
        clear ih
        induction n with
        | zero => simp [Co.cntTo] at h
        | succ n ih =>
          rw [Co.cntTo] at h
          by_cases hq : q n = true
          · exact ⟨n, by omega, hq⟩
          · rw [if_neg hq] at h
            obtain ⟨a, ha, hqa⟩ := ih (by omega)
            exact ⟨a, by omega, hqa⟩
      · rintro ⟨a, ha, hqa⟩
        exact Co.cntTo_pos n ha hqa
    rw [Co.cntTo]
    by_cases hq : q n = true
    · rw [if_pos hq]
      constructor
      · intro h
        obtain ⟨a, ha, hqa⟩ := pos.1 (by omega)
        exact ⟨a, n, by omega, by omega, by omega, hqa, hq⟩
      · rintro ⟨a, b, ha, hb, hne, hqa, hqb⟩
        have : 0 < Co.cntTo q n := by
          by_cases e : a = n
          · exact pos.2 ⟨b, by omega, hqb⟩
          · exact pos.2 ⟨a, by omega, hqa⟩
        omega
    · rw [if_neg hq, Nat.add_zero, ih]
      constructor
      · rintro ⟨a, b, ha, hb, r⟩
        exact ⟨a, b, by omega, by omega, r⟩
      · rintro ⟨a, b, ha, hb, hne, hqa, hqb⟩
        have h1 : a ≠ n := fun e => hq (by rw [← e]; exact hqa)
        have h2 : b ≠ n := fun e => hq (by rw [← e]; exact hqb)
        exact ⟨a, b, by omega, by omega, hne, hqa, hqb⟩

section
variable {n : Nat} {es : List (Int × Int)} {f : Nat → Nat} {c : Nat}

/-- An edge ends at v just if one of its half-edges leaves it. -/
theorem at_half (hv : Si.Val n es) {e v : Nat} {p : Int × Int} (hp : es[e]? = some p) : (p.1 = (v : Int) ∨ p.2 = (v : Int)) ↔ ∃ i, i / 2 = e ∧ i < 2 * es.length ∧ Cs.fr es i = v := by
  have hel := (List.getElem?_eq_some_iff.1 hp).1
  have hok := hv.each e p hp
  unfold Si.ok at hok
  have h1 : Cs.fr es (2 * e) = p.1.toNat := by
    unfold Cs.fr
    rw [show 2 * e / 2 = e by omega, List.getD_eq_getElem?_getD, hp, if_pos (by omega)]
    rfl
  have h2 : Cs.fr es (2 * e + 1) = p.2.toNat := by
    unfold Cs.fr
    rw [show (2 * e + 1) / 2 = e by omega, List.getD_eq_getElem?_getD, hp, if_neg (by omega)]
    rfl
  constructor
  · rintro (h | h)
    · exact ⟨2 * e, by omega, by omega, by rw [h1]; omega⟩
    · exact ⟨2 * e + 1, by omega, by omega, by rw [h2]; omega⟩
  · rintro ⟨i, h3, h4, h5⟩
    have : i = 2 * e ∨ i = 2 * e + 1 := by omega
    rcases this with rfl | rfl
    · rw [h1] at h5
      exact .inl (by omega)
    · rw [h2] at h5
      exact .inr (by omega)
open Classical in
theorem hit_iff (hv : Si.Val n es) {v k : Nat} (hvn : v < n) : hitB es f (v : Int) k es.length = true ↔ ∃ z ∈ Cs.outZ n es v, nh f z = k := by
  unfold hitB
  rw [decide_eq_true_iff]
  constructor
  · rintro ⟨e, p, he, hp, hf, ha⟩
    obtain ⟨i, h1, h2, h3⟩ := (at_half hv hp).1 ha
    exact ⟨(i : Int), (mem_outZ hvn).2 ⟨i, rfl, h2, h3⟩, by unfold nh; rw [Int.toNat_natCast, h1]; exact hf⟩
  · rintro ⟨z, hz, hk⟩
    obtain ⟨i, rfl, h2, h3⟩ := (mem_outZ hvn).1 hz
    unfold nh at hk
    rw [Int.toNat_natCast] at hk
    obtain ⟨p, hp⟩ : ∃ p, es[i / 2]? = some p := ⟨_, List.getElem?_eq_getElem (by omega)⟩
    exact ⟨i / 2, p, by omega, hp, hk, (at_half hv hp).2 ⟨i, rfl, h2, h3⟩⟩
theorem first_mem {v : Nat} (h : Cs.outZ n es v ≠ []) : Cs.firstI n es v ∈ Cs.outZ n es v := by
  unfold Cs.firstI
  cases hq : Cs.outZ n es v with
  | nil => exact absurd hq h
  | cons y l => simp
theorem cut_iff (hv : Si.Val n es) (hf : ∀ e, e < es.length → f e < c) {v : Nat} (hvn : v < n) : (∃ z ∈ Cs.outZ n es v, nh f z ≠ nh f (Cs.firstI n es v)) ↔ 1 < inB es f (v : Int) c := by
  unfold inB
  rw [cnt_two]
  have hlt : ∀ z ∈ Cs.outZ n es v, nh f z < c := fun z hz => by
    obtain ⟨i, rfl, h2, h3⟩ := (mem_outZ hvn).1 hz
    unfold nh
    exact hf _ (by rw [Int.toNat_natCast]; omega)
  constructor
  · rintro ⟨z, hz, hne⟩
    have hz0 := first_mem (n := n) (es := es) (v := v) (fun e => by rw [e] at hz; cases hz)
    exact ⟨_, _, hlt z hz, hlt _ hz0, hne, (hit_iff hv hvn).2 ⟨z, hz, rfl⟩, (hit_iff hv hvn).2 ⟨_, hz0, rfl⟩⟩
  · rintro ⟨a, b, _, _, hne, ha, hb⟩
    obtain ⟨z1, hz1, e1⟩ := (hit_iff hv hvn).1 ha
    obtain ⟨z2, hz2, e2⟩ := (hit_iff hv hvn).1 hb
    by_cases h : nh f z1 = nh f (Cs.firstI n es v)
    · exact ⟨z2, hz2, by omega⟩
    · exact ⟨z1, hz1, h⟩

/-- The vertices below j that are in block k. -/
noncomputable def vsTo (es : List (Int × Int)) (f : Nat → Nat) (k : Int) (j : Nat) : List Int := ((List.range j).filter fun v : Nat => 0 ≤ k && hitB es f (v : Int) k.toNat es.length).map fun v : Nat => (v : Int)
theorem vsTo_yes {k j : Nat} (h : hitB es f (j : Int) k es.length = true) : vsTo es f (k : Int) (j + 1) = vsTo es f (k : Int) j ++ [(j : Int)] := by
  unfold vsTo
  rw [List.range_succ, List.filter_append, List.map_append, List.filter_cons_of_pos (by simpa using h)]
  rfl
theorem vsTo_no {k j : Nat} (h : hitB es f (j : Int) k es.length = false) : vsTo es f (k : Int) (j + 1) = vsTo es f (k : Int) j := by
  unfold vsTo
  rw [List.range_succ, List.filter_append, List.map_append, List.filter_cons_of_neg (by simpa using h)]
  simp
theorem vsTo_length (k : Int) (j : Nat) : (vsTo es f k j).length ≤ j := by
  unfold vsTo
  rw [List.length_map]
  exact Nat.le_trans (List.length_filter_le _ _) (by simp)
end
end Bl
end Go.Proofs.Ytalfpbalekbinaa
