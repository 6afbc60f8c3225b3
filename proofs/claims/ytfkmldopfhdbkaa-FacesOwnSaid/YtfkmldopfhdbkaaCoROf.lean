/-
  The document's components: passes over the edges till nothing changes.
-/
import Derived.Test.YtfkmldopfhdbkaaMg14
import Derived.Test.YtfkmldopfhdbkaaCoRNew
import Derived.Test.YtfkmldopfhdbkaaSiRValid
import Derived.BigQuiet
import Derived.Deep.QuietTactic
namespace Go.Proofs.Ytfkmldopfhdbkaa
open Go.RowKit Go.Sort

namespace Co
/-- The sum of the first values. -/
def sumTo (f : Nat → Nat) : Nat → Nat
  | 0 => 0
  | k + 1 => sumTo f k + f k
theorem sumTo_congr {f g : Nat → Nat} : ∀ k, (∀ i, i < k → f i = g i) → sumTo f k = sumTo g k
  | 0, _ => rfl
  | k + 1, h => by unfold sumTo; rw [sumTo_congr k (fun i hi => h i (by omega)), h k (by omega)]
theorem sumTo_upd {f : Nat → Nat} {x y : Nat} (hy : y < f x) : ∀ k, x < k → sumTo (upd f x y) k < sumTo f k
  | 0, h => by omega
  | k + 1, h => by
    unfold sumTo
    by_cases e : x = k
    · subst e
      rw [upd_same, sumTo_congr (f := upd f x y) (g := f) x (fun i hi => upd_other _ (by omega))]
      omega
    · have := sumTo_upd hy k (by omega)
      rw [upd_other _ (by omega)]
      omega

/-- F leads each number down within its set, whatever the sets that meet the edges. -/
structure Down (n : Nat) (es : List (Int × Int)) (F : Nat → Nat) : Prop where
  le : ∀ x, x < n → F x ≤ x
  sub : ∀ f : Nat → Nat, Meets n es f → ∀ x, x < n → f (F x) = f x

theorem Down.id (n : Nat) (es : List (Int × Int)) : Down n es (fun x => x) := ⟨fun _ _ => Nat.le_refl _, fun _ _ _ _ => rfl⟩

theorem Down.step {n : Nat} {es : List (Int × Int)} {F : Nat → Nat} (h : Down n es F) {u v : Nat} (hu : u < n) (hv : v < n) (hm : ∀ f : Nat → Nat, Meets n es f → f u = f v) (hlt : F v < F u) : Down n es (upd F u (F v)) := by
  refine ⟨fun x hx => ?_, fun f hf x hx => ?_⟩
  · by_cases e : x = u
    · subst e; rw [upd_same]; have := h.le x hx; omega
    · rw [upd_other _ e]; exact h.le x hx
  · by_cases e : x = u
    · subst e; rw [upd_same, h.sub f hf v hv]; exact (hm f hf).symm
    · rw [upd_other _ e]; exact h.sub f hf x hx

/-- Where nothing changes any more, it is the least of the set. -/
theorem Down.done {n : Nat} {es : List (Int × Int)} {F : Nat → Nat} (h : Down n es F) (hm : Meets n es F) {m : Nat → Nat} (g : Gen n es m) {x : Nat} (hx : x < n) : F x = m x := by
  have e1 := g.least F hm x hx
  have e2 := h.sub m g.meets x hx
  have l1 := h.le x hx
  have l2 := g.norm.le x hx
  have l3 := h.le (m x) (by omega)
  have l4 := g.norm.le (F x) (by omega)
  omega
end Co

/-- The number in a cell. -/
def cellNat (w : World) (g i : Nat) : Nat :=
  match w.cell? ⟨g, i, none⟩ with
  | some (.int _ z) => z.toNat
  | _ => 0

theorem cellNat_eq {w : World} {g n : Nat} {F : Nat → Nat} (h : IntsIn w g (Co.ints n F)) {i : Nat} (hi : i < n) : cellNat w g i = F i := by
  unfold cellNat
  rw [h.cell (Co.ints_at hi)]
  simp

theorem sum_eq {w : World} {g n : Nat} {F : Nat → Nat} (h : IntsIn w g (Co.ints n F)) : Co.sumTo (cellNat w g) n = Co.sumTo F n := Co.sumTo_congr n fun _ hi => cellNat_eq h hi

def boolOf : Value → Nat
  | .bool true => 1
  | _ => 0

theorem meets_edge {n : Nat} {es : List (Int × Int)} {k u v : Nat} (hq : es[k]? = some ((u : Int), (v : Int))) (hu : u < n) (hv : v < n) {f : Nat → Nat} (hf : Co.Meets n es f) : f u = f v := by
  have := hf _ (List.mem_of_getElem? hq) ⟨by dsimp only; omega, by dsimp only; omega⟩ ⟨by dsimp only; omega, by dsimp only; omega⟩
  simpa using this

/-- A pass has come to edge i: F, from F0. -/
structure Pass (n : Nat) (es : List (Int × Int)) (F0 F : Nat → Nat) (i : Nat) (ch : Bool) : Prop where
  down : Co.Down n es F
  less : Co.sumTo F n ≤ Co.sumTo F0 n
  yes : ch = true → Co.sumTo F n < Co.sumTo F0 n
  no : ch = false → Co.Meets n (es.take i) F

theorem Co.Meets.snoc {n : Nat} {es : List (Int × Int)} {F : Nat → Nat} (h : Co.Meets n es F) {u v : Nat} (e : F u = F v) : Co.Meets n (es ++ [((u : Int), (v : Int))]) F := by
  intro j hj h1 h2
  rcases List.mem_append.1 hj with hj | hj
  · exact h j hj h1 h2
  · obtain rfl := List.mem_singleton.1 hj
    simpa using e

set_option maxRecDepth 100000 in
set_option maxHeartbeats 16000000 in
theorem rof_any (n : Int) (ao : Option Addr) (cap : Nat) (es : List (Int × Int)) (w : World) (he : EdgesAt w ao es) (hl : es.length ≤ 4611686018427387904) :
    Calls Try.prog 36 #[graphVal n ao es.length cap] w (OfPost n es w) := by
  obtain ⟨i0, hi, hz0, hz1, hz2⟩ := info_parts Try.infoNum
  have HE := Nu.hid he
  have hva := fun W (hb : Below w.heap.size w W) => rvalid_any n ao cap es W (he.later hb) hl
  unfold graphVal at hva ⊢
  have HVA := Nu.hid hva
  clear he hva
  have hbw0 : Below w.heap.size w (w.alloc (.cells #[.int .i64 n, .slice ao es.length cap] 24)) := (Below.refl _ _).alloc (Nat.le_refl _) _
  have HBW0 := Nu.hid hbw0
  clear hbw0
  cases hv : Si.valid n es with
  | false =>
    rw [hv] at HVA
    have HV := Nu.hid hv
    clear hv
    go_enter Try.func36, Try.ntmps36
    go_wp2_with (go_at_call 52; refine (HVA.out _ HBW0.out).mono ?_; rintro e w' ⟨rfl, hb⟩; refine Hid.out ?_)
    refine Nu.hid ?_
    have HB := Nu.hid (HBW0.out.trans (hb.mono HBW0.out.size))
    clear hb
    go_wp2
    go_ret3
    exact ⟨.inr ⟨HV.out, rfl⟩, HB.out⟩
  | true =>
    rw [hv] at HVA
    have hval := Si.valid_iff.1 hv
    have hfew := hval.few
    have hlo := hval.lo
    have hhi := hval.hi
    obtain ⟨m, rfl⟩ : ∃ m : Nat, n = (m : Int) := ⟨n.toNat, by omega⟩
    have HVAL := Nu.hid hval
    clear hval hv
    have hrn : ∀ W, Calls Try.prog 53 #[.int .i64 (m : Int)] W fun e w' => ∃ v, e = .returned (.tuple #[v, .int .i64 0]) ∧ OwnZ w' W.heap.size v (Co.ints m (fun x => x)) ∧ Below W.heap.size W w' := fun W => (rnew_any m W).mono (by
      rintro e w' ⟨⟨j, v, h1, _, rfl, h4⟩ | ⟨h1, _⟩, hb⟩
      · obtain rfl : m = j := by omega
        exact ⟨v, rfl, h4, hb⟩
      · omega)
    have HRN := Nu.hid hrn
    clear hrn
    go_enter Try.func36, Try.ntmps36
    go_wp2_with (go_at_call 52; refine (HVA.out _ HBW0.out).mono ?_; rintro e w1 ⟨rfl, hb⟩; refine Hid.out ?_)
    refine Nu.hid ?_
    have hG : w1.heap[w.heap.size]? = some (.cells #[.int .i64 m, .slice ao es.length cap] 24 (0, 0)) := (hb.block _ (by simp)).trans (heap_alloc_new w _)
    have HB1 := Nu.hid (HBW0.out.trans (hb.mono HBW0.out.size))
    have HG := Nu.hid hG
    have hsG := lt_of_block hG
    obtain ⟨g0, g1, -⟩ := pair_cells hG
    clear hb hG HVA
    go_wp2_with (go_at_call 53; refine (HRN.out _).mono ?_; rintro e w2 ⟨nv, rfl, ho2, hb2⟩; obtain ⟨no, nc, hnv, -, -⟩ := ho2.form; rw [Co.ints_length] at hnv; have HO2 := Nu.hid ho2; have HB2 := Nu.hid hb2; clear ho2 hb2; subst hnv; refine Hid.out ?_)
    refine Nu.hid ?_
    clear HRN g0 g1
    -- the list's block, if there are numbers
    obtain ⟨gb, hgb⟩ : ∃ gb : Nat, (0 < m → no = some ⟨gb, 0, none⟩) ∧ (0 < m → w1.heap.size ≤ gb ∧ IntsIn w2 gb (Co.ints m (fun x => x))) := by
      rcases HO2.out.2 with ⟨h1, h2⟩ | ⟨g, c', cur, h1, h2, _⟩
      · exact ⟨0, fun h => by rw [Co.ints_length] at h2; omega, fun h => by rw [Co.ints_length] at h2; omega⟩
      · have h3 := HO2.out
        rw [Co.ints_length] at h1
        cases h1
        refine ⟨g, fun _ => rfl, fun _ => ⟨h2, ?_⟩⟩
        unfold OwnZ at h3
        rw [Co.ints_length] at h3
        exact ints_in_row h3
    have HGB := Nu.hid hgb
    have hbW2 : Below w.heap.size w w2 := HB1.out.trans (HB2.out.mono HB1.out.size)
    have HBW2 := Nu.hid hbW2
    have HG2 := Nu.hid ((HB2.out.block _ hsG).trans HG.out)
    have hs1 := HB1.out.size
    clear hgb hbW2 HO2 HG HB2
    go_wp2
    go_loopw [7] (fun cb wr => ∃ (ch : Bool) (F : Nat → Nat), cb = .bool ch ∧ (0 < m → IntsIn wr gb (Co.ints m F)) ∧ Co.Down m es F ∧ (ch = false → Co.Meets m es F) ∧ wr.heap[w.heap.size]? = some (.cells #[.int .i64 m, .slice ao es.length cap] 24 (0, 0)) ∧ Below w.heap.size w wr) (fun cb wr => 2 * Co.sumTo (cellNat wr gb) m + boolOf cb)
    case atStart => exact ⟨true, _, rfl, fun h => (HGB.out.2 h).2, Co.Down.id m es, fun h => (by cases h), HG2.out, HBW2.out⟩
    case round =>
      obtain ⟨ch, F0, rfl, hI0, hD0, hM0, hg0, hb0⟩ := hrel
      obtain ⟨w0, rfl⟩ : ∃ w0, w0 = wr := ⟨wr, rfl⟩
      have HI0 := Nu.hid hI0
      have HG0 := Nu.hid hg0
      have HB0 := Nu.hid hb0
      have HD0 := Nu.hid hD0
      have HM0 := Nu.hid hM0
      cases ch with
      | true =>
        clear hI0 hD0 hM0 hg0 hb0
        go_wp2
        go_loopw [7, 8] (fun cb cv wr => ∃ (i : Nat) (ch : Bool) (F : Nat → Nat), i ≤ es.length ∧ cv = .int .i64 (i : Int) ∧ cb = .bool ch ∧ (0 < m → IntsIn wr gb (Co.ints m F)) ∧ Pass m es F0 F i ch ∧ wr.heap[w.heap.size]? = some (.cells #[.int .i64 m, .slice ao es.length cap] 24 (0, 0)) ∧ Below w.heap.size w wr) (fun _ cv _ => es.length - (intOf cv).toNat)
        case atStart => exact ⟨0, false, F0, Nat.zero_le _, rfl, rfl, HI0.out, ⟨HD0.out, Nat.le_refl _, fun h => (by cases h), fun _ j hj => by simp at hj⟩, HG0.out, HB0.out⟩
        case round =>
          obtain ⟨i, ch, F, hi', rfl, rfl, hI, hP, hg, hb⟩ := hrel
          have HI := Nu.hid hI
          have HP := Nu.hid hP
          have HG := Nu.hid hg
          have HB := Nu.hid hb
          obtain ⟨x0, x1, -⟩ := pair_cells hg
          by_cases hlt : i < es.length
          · have hlti : (i : Int) < (es.length : Int) := by omega
            have hi0' : (0 : Int) ≤ (i : Int) := by omega
            obtain ⟨q, hq⟩ : ∃ q, es[i]? = some q := ⟨_, List.getElem?_eq_getElem hlt⟩
            have hok := HVAL.out.each i q hq
            unfold Si.ok at hok
            obtain ⟨b, o, rfl, c0, c1⟩ := (HE.out.later hb) i q hq
            obtain ⟨qu, qv⟩ := q
            dsimp only at c0 c1 hok
            obtain ⟨u, rfl⟩ : ∃ u : Nat, qu = (u : Int) := ⟨qu.toNat, by omega⟩
            obtain ⟨v, rfl⟩ : ∃ v : Nat, qv = (v : Int) := ⟨qv.toNat, by omega⟩
            have hum : u < m := by omega
            have hvm : v < m := by omega
            have hIn := hI (by omega)
            have hgbl := (HGB.out.2 (by omega)).1
            have hno := HGB.out.1 (by omega)
            subst hno
            have cu := hIn.cell (Co.ints_at (f := F) hum)
            have cv := hIn.cell (Co.ints_at (f := F) hvm)
            have cf := hIn.free
            have u0 : (0 : Int) ≤ (u : Int) := by omega
            have u1 : (u : Int) < (m : Int) := by omega
            have v0 : (0 : Int) ≤ (v : Int) := by omega
            have v1 : (v : Int) < (m : Int) := by omega
            have hmt : ∀ f : Nat → Nat, Co.Meets m es f → f u = f v := fun f hf => meets_edge hq hum hvm hf
            have htk := Si.take_snoc hq
            have HMT := Nu.hid hmt
            have HTK := Nu.hid htk
            have HIN := Nu.hid hIn
            have hne : u ≠ v := by omega
            have hgw : w.heap.size ≠ gb := by omega
            rcases Nat.lt_trichotomy (F u) (F v) with hc | hc | hc
            · -- v comes down
              have d1 : ¬ (F v : Int) < (F u : Int) := by omega
              have d2 : (F u : Int) < (F v : Int) := by omega
              have n1 := hIn.set (i := v) (by rw [Co.ints_length]; exact hvm) (F u : Int)
              rw [Co.ints_set (F u) hvm] at n1
              have HN1 := Nu.hid n1
              have HP1 : Hid (Pass m es F0 (Co.upd F v (F u)) (i + 1) true) := by
                have hs := Co.sumTo_upd hc m hvm
                exact ⟨hP.down.step hvm hum (fun f hf => (hmt f hf).symm) hc, by have := hP.less; omega, fun _ => by have := hP.less; omega, fun h => (by cases h)⟩
              have HG1 : Hid ((wr.setCell ⟨gb, v, none⟩ (.int .i64 (F u : Int))).heap[w.heap.size]? = some (.cells #[.int .i64 m, .slice (some ⟨b, o, none⟩) es.length cap] 24 (0, 0))) := (heap_setCell_other wr ⟨gb, v, none⟩ w.heap.size _ hgw).trans hg
              have HB1' := Nu.hid (hb.setCell (p := ⟨gb, v, none⟩) (by show w.heap.size ≤ gb; omega) (.int .i64 (F u : Int)))
              clear hI hP hg hb hq hok hIn n1 hmt htk
              go_wp2_with fail
              go_quiet (fail)
              go_wp2_with fail
              go_quiet (fail)
              go_wp2_with fail
              go_quiet (fail)
              go_wp2
              go_roundw
              case rel => exact ⟨i + 1, true, _, by omega, by go_num, rfl, fun _ => HN1.out, HP1.out, HG1.out, below_drewN HB1'.out _⟩
              case measure => simp [intOf]; omega
            · have d1 : ¬ (F v : Int) < (F u : Int) := by omega
              have d2 : ¬ (F u : Int) < (F v : Int) := by omega
              have HP1 : Hid (Pass m es F0 F (i + 1) ch) := ⟨hP.down, hP.less, hP.yes, fun h => by rw [htk]; exact (hP.no h).snoc hc⟩
              clear hI hP hg hb hq hok hIn hmt htk
              go_wp2_with fail
              go_quiet (fail)
              go_wp2_with fail
              go_quiet (fail)
              go_wp2_with fail
              go_quiet (fail)
              go_wp2
              go_roundw
              case rel => exact ⟨i + 1, ch, F, by omega, by go_num, rfl, HI.out, HP1.out, HG.out, below_drewN HB.out _⟩
              case measure => simp [intOf]; omega
            · -- u comes down
              have d1 : (F v : Int) < (F u : Int) := by omega
              have n1 := hIn.set (i := u) (by rw [Co.ints_length]; exact hum) (F v : Int)
              rw [Co.ints_set (F v) hum] at n1
              have e1 := n1.cell (Co.ints_at hum)
              have e2 := n1.cell (Co.ints_at hvm)
              rw [Co.upd_same] at e1
              rw [Co.upd_other _ (Ne.symm hne)] at e2
              have HN1 := Nu.hid n1
              have HP1 : Hid (Pass m es F0 (Co.upd F u (F v)) (i + 1) true) := by
                have hs := Co.sumTo_upd hc m hum
                exact ⟨hP.down.step hum hvm hmt hc, by have := hP.less; omega, fun _ => by have := hP.less; omega, fun h => (by cases h)⟩
              have HG1 : Hid ((wr.setCell ⟨gb, u, none⟩ (.int .i64 (F v : Int))).heap[w.heap.size]? = some (.cells #[.int .i64 m, .slice (some ⟨b, o, none⟩) es.length cap] 24 (0, 0))) := (heap_setCell_other wr ⟨gb, u, none⟩ w.heap.size _ hgw).trans hg
              have HB1' := Nu.hid (hb.setCell (p := ⟨gb, u, none⟩) (by show w.heap.size ≤ gb; omega) (.int .i64 (F v : Int)))
              have d2 : ¬ (F v : Int) < (F v : Int) := by omega
              clear hI hP hg hb hq hok hIn n1 hmt htk
              go_wp2_with fail
              go_quiet (fail)
              go_wp2_with fail
              go_quiet (fail)
              go_wp2_with fail
              go_quiet (fail)
              go_wp2
              go_roundw
              case rel => exact ⟨i + 1, true, _, by omega, by go_num, rfl, fun _ => HN1.out, HP1.out, HG1.out, below_drewN ((below_drewN HB.out _).setCell (p := ⟨gb, u, none⟩) (by show w.heap.size ≤ gb; omega) _) _⟩
              case measure => simp [intOf]; omega
          · have hd : ¬ ((i : Int) < (es.length : Int)) := by omega
            have HNO : Hid (ch = false → Co.Meets m es F) := fun h => by
              have := hP.no h
              rw [List.take_of_length_le (by omega)] at this
              exact this
            clear hI hP hg hb
            go_wp2
            go_roundw
            case rel => exact ⟨ch, F, rfl, HI.out, HP.out.down, HNO.out, HG.out, HB.out⟩
            case measure =>
              by_cases hm0 : 0 < m
              · rw [sum_eq (HI.out hm0), sum_eq (HI0.out hm0)]
                have h1 := HP.out.less
                have h2 := HP.out.yes
                cases ch
                · simp [boolOf]; omega
                · have := h2 rfl
                  simp [boolOf]
                  omega
              · obtain rfl : m = 0 := by omega
                have h2 := HP.out.yes
                cases ch
                · simp [boolOf, Co.sumTo]
                · have := h2 rfl
                  simp [Co.sumTo] at this
      | false =>
        have hF : ∀ x, x < m → F0 x = Co.ofG m es x := fun x hx => hD0.done (hM0 rfl) (Co.ofG_gen m es) hx
        have hI1 : 0 < m → IntsIn w0 gb (Co.ints m (Co.ofG m es)) := fun h => by rw [← Co.ints_congr hF]; exact hI0 h
        have HI1 := Nu.hid hI1
        obtain ⟨x0, x1, -⟩ := pair_cells hg0
        have HNORM := Nu.hid (Co.ofG_gen m es).norm
        obtain ⟨M, hM⟩ : ∃ M, Co.ofG m es = M := ⟨_, rfl⟩
        rw [hM] at HI1 HNORM
        have HMM := Nu.hid hM
        have hs0 := hb0.size
        have hsg0 := lt_of_block hg0
        clear hI0 hD0 hM0 hF hI1 hb0 hM hg0
        go_wp2_with (at_make; refine wpList_make_full _ rfl _ _ 36 rfl w0.heap.size 3 i0 (.int .i64 0) 1 Try.underlying36 hi hz0 hz1 _ _ _ _ m rfl rfl rfl rfl (by rw [hz2]; omega) (by unfold maxLen; omega) (Nat.le_refl _) ?_; refine Hid.out ?_)
        refine Nu.hid ?_
        intro w3 hrow hg3
        rw [made_zeros] at hrow
        have hik := ints_of_row hrow
        rw [← Co.ints_zero] at hik
        have hb3 : Below w0.heap.size w0 w3 := (Below.refl _ _).grown hg3 (Nat.le_refl _) (fun j hj => by cases hj)
        have HI3 := Nu.hid hik
        have HB3 := Nu.hid hb3
        clear hrow hg3 hik hb3 x0 x1
        go_wp2
        go_loopw [12, 13] (fun s c wr => ∃ (k : Nat) (F : Nat → Nat), k ≤ m ∧ c = .int .i64 (k : Int) ∧ s = .int .i64 (Co.cntTo (Co.fix M) k : Int) ∧ (∀ i, i < k → F i = Co.num M i) ∧ IntsBlk wr w0.heap.size (Co.ints m F) ∧ Below w0.heap.size w0 wr) (fun _ c _ => m - (intOf c).toNat)
        case atStart => exact ⟨0, _, Nat.zero_le _, rfl, rfl, fun i hi => by omega, HI3.out, HB3.out⟩
        case round =>
          obtain ⟨k, F, hk, rfl, rfl, hF, hiS, hb⟩ := hrel
          have hcl := Co.cntTo_le (Co.fix M) k
          have hgr := (hb.block w.heap.size hsg0).trans HG0.out
          obtain ⟨x0, x1, -⟩ := pair_cells hgr
          have HF := Nu.hid hF
          have HIS := Nu.hid hiS
          have HB := Nu.hid hb
          by_cases hkn : k < m
          · have hk0 : (0 : Int) ≤ (k : Int) := by omega
            have hk1 : (k : Int) < (m : Int) := by omega
            have hno := HGB.out.1 (by omega)
            have cl := ((HI1.out (by omega)).later hb).cell (Co.ints_at (f := M) hkn)
            have cx := hiS.cell (Co.ints_at (f := F) hkn)
            have cf := hiS.free
            have hsr := hb.size
            have hgbl := (HI1.out (by omega)).lt
            subst hno
            by_cases hf : M k = k
            · have hd : ((M k : Int) == (k : Int)) = true := by simp [hf]
              have HSU := Nu.hid (Co.fix_succ_yes hf)
              have HNU := Nu.hid (Co.num_self hf)
              obtain ⟨z, hz⟩ : ∃ z, Co.cntTo (Co.fix M) k = z := ⟨_, rfl⟩
              rw [hz] at hcl HSU HNU ⊢
              have n1 := hiS.set k (z : Int)
              rw [Co.ints_set z hkn] at n1
              have HN1 := Nu.hid n1
              have HB3' := Nu.hid (hb.setCell (p := ⟨w0.heap.size, k, none⟩) (Nat.le_refl _) (.int .i64 (z : Int)))
              clear hF hiS hb n1 hgr hz hf
              go_wp2
              go_roundw
              case rel =>
                refine ⟨k + 1, _, by omega, by go_num, by rw [HSU.out]; go_num, fun i hi => ?_, HN1.out, HB3'.out⟩
                by_cases e : i = k
                · subst e; rw [Co.upd_same, HNU.out]
                · rw [Co.upd_other _ e]; exact HF.out i (by omega)
              case measure => simp [intOf]; omega
            · have hd : ((M k : Int) == (k : Int)) = false := by simp; omega
              have hml := HNORM.out.le k hkn
              have hmk : M k < k := by omega
              have HSU := Nu.hid (Co.fix_succ_no hf)
              have hfm := HF.out (M k) hmk
              rw [Co.num_least HNORM.out hkn] at hfm
              have HFM := Nu.hid hfm
              obtain ⟨z, hz⟩ : ∃ z, Co.cntTo (Co.fix M) k = z := ⟨_, rfl⟩
              rw [hz] at hcl HSU ⊢
              obtain ⟨y, hy⟩ : ∃ y, M k = y := ⟨_, rfl⟩
              rw [hy] at hmk hd HFM cl
              have cy := hiS.cell (Co.ints_at (f := F) (show y < m by omega))
              have y0 : (0 : Int) ≤ (y : Int) := by omega
              have y1 : (y : Int) < (m : Int) := by omega
              have n1 := hiS.set k (F y : Int)
              rw [Co.ints_set (F y) hkn] at n1
              have HN1 := Nu.hid n1
              have HB3' := Nu.hid (hb.setCell (p := ⟨w0.heap.size, k, none⟩) (Nat.le_refl _) (.int .i64 (F y : Int)))
              clear hF hiS hb n1 hgr hz hf hy hml hfm
              go_wp2
              go_roundw
              case rel =>
                refine ⟨k + 1, _, by omega, by go_num, by rw [HSU.out], fun i hi => ?_, HN1.out, HB3'.out⟩
                by_cases e : i = k
                · subst e; rw [Co.upd_same, HFM.out]
                · rw [Co.upd_other _ e]; exact HF.out i (by omega)
              case measure => simp [intOf]; omega
          · have hd : ¬ ((k : Int) < (m : Int)) := by omega
            obtain rfl : k = m := by omega
            rw [Co.ints_congr hF] at hiS
            have HIS2 := Nu.hid hiS
            clear hF hiS hb hgr
            go_wp2
            go_ret3
            refine ⟨.inl ⟨k, .slice (some ⟨w0.heap.size, 0, none⟩) k k, rfl, HVAL.out, ?_, ?_⟩, HB0.out.trans (HB.out.mono hs0)⟩
            · rw [HMM.out]; rfl
            · rw [HMM.out]; exact HIS2.out.own hs0 (Co.ints_length _ _) (by omega)

end Go.Proofs.Ytfkmldopfhdbkaa
