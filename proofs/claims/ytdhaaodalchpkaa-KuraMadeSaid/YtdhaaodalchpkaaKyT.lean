/-
  Layer 15, the laws' own: shown, called.
-/
import Derived.Test.YtdhaaodalchpkaaKyS
import Derived.Deep.Cut
namespace Go.Proofs.Ytdhaaodalchpkaa
open Go.RowKit Go.Sort

set_option maxRecDepth 100000 in
set_option maxHeartbeats 16000000 in
theorem shown15_any (m kd q P M ca bc pc : Nat) (ao ba pa : Option Addr) (es : List (Int × Int)) (br : List Int) (ps : List (List Int)) (ts : List (List Nat)) (w : World) (hv : Si.Val (m : Int) es) (hM : es.length = M) (hP : ps.length = P) (he : EdgesAt w ao es) (hbr : IntsAt w ba br) (hps : Ku.SeesL w (.slice pa P pc) ps) (hs : Ku.Shows es m kd q br ps ts) :
    Calls Try.prog 19 #[.agg #[.int .i64 (m : Int), .slice ao M ca], .agg #[.int .i64 (kd : Int), .slice ba q bc, .slice pa P pc]] w fun e w' => e = .returned (.bool true) ∧ Below w.heap.size w w' := by
  have hq5 : 5 ≤ q := by rcases hs.kdq with h | h <;> omega
  have hP0 : 0 < P := by
    rw [← hP, hs.pl]
    rcases hs.kdq with ⟨rfl, rfl⟩ | ⟨rfl, rfl⟩ <;> decide
  obtain ⟨b0, hb0⟩ : ∃ b, br[0]? = some b := ⟨_, List.getElem?_eq_getElem (by rw [hs.brl]; omega)⟩
  obtain ⟨bb, bo, rfl, -⟩ := hbr 0 b0 hb0
  obtain ⟨pa', pc', epp, hpr⟩ := hps
  rw [hP] at epp
  cases epp
  obtain ⟨c0, hc0⟩ : ∃ c, ps[0]? = some c := ⟨_, List.getElem?_eq_getElem (by rw [hP]; exact hP0)⟩
  obtain ⟨pb, po, x0, rfl, -⟩ := hpr 0 c0 hc0
  obtain ⟨W1, hW1⟩ : ∃ W1, W1 = w.alloc (.cells #[.int .i64 (m : Int), .slice ao M ca] 24) := ⟨_, rfl⟩
  obtain ⟨W, hW⟩ : ∃ W, W = W1.alloc (.cells #[.int .i64 (kd : Int), .slice (some ⟨bb, bo, none⟩) q bc, .slice (some ⟨pb, po, none⟩) P pc] 38) := ⟨_, rfl⟩
  have hs1 : W1.heap.size = w.heap.size + 1 := by rw [hW1]; simp
  have hB1 : Below w.heap.size w W1 := by rw [hW1]; exact (Below.refl _ _).alloc (Nat.le_refl _) _
  have hB2 : Below W1.heap.size W1 W := by rw [hW]; exact (Below.refl _ _).alloc (Nat.le_refl _) _
  have hBW : Below w.heap.size w W := hB1.trans (hB2.mono hB1.size)
  have g1 : W.heap[w.heap.size]? = some (.cells #[.int .i64 (m : Int), .slice ao M ca] 24 (0, 0)) := by
    rw [hB2.block _ (by omega), hW1]
    exact heap_alloc_new w _
  have g2 : W.heap[w.heap.size + 1]? = some (.cells #[.int .i64 (kd : Int), .slice (some ⟨bb, bo, none⟩) q bc, .slice (some ⟨pb, po, none⟩) P pc] 38 (0, 0)) := by rw [hW, ← hs1]; exact heap_alloc_new W1 _
  have hread : ∀ U, Below W.heap.size W U → (U.cell? ⟨w.heap.size, 0, none⟩ = some (.int .i64 (m : Int)) ∧ U.cell? ⟨w.heap.size, 1, none⟩ = some (.slice ao M ca)) ∧ (U.cell? ⟨w.heap.size + 1, 0, none⟩ = some (.int .i64 (kd : Int)) ∧ U.cell? ⟨w.heap.size + 1, 1, none⟩ = some (.slice (some ⟨bb, bo, none⟩) q bc) ∧ U.cell? ⟨w.heap.size + 1, 2, none⟩ = some (.slice (some ⟨pb, po, none⟩) P pc)) ∧ EdgesAt U ao es ∧ (∀ (i : Nat) (b : Int), br[i]? = some b → U.cell? ⟨bb, bo + i, none⟩ = some (.int .i64 b)) := fun U hU => by
    obtain ⟨a0, a1, -⟩ := pair_cells ((hU.block _ (lt_of_block g1)).trans g1)
    obtain ⟨d0, d1, d2, -⟩ := cells3_15 ((hU.block _ (lt_of_block g2)).trans g2)
    have hb := hBW.trans (hU.mono hBW.size)
    refine ⟨⟨a0, a1⟩, ⟨d0, d1, d2⟩, he.later hb, fun i b hi => ?_⟩
    obtain ⟨b', o', e', hc⟩ := (hbr.later hb) i b hi
    cases e'
    exact hc
  have hpath : ∀ (k : Nat) (c : List Int), ps[k]? = some c → ∃ cb co cc : Nat, ∀ U, Below W.heap.size W U → U.cell? ⟨pb, po + k, none⟩ = some (.slice (some ⟨cb, co, none⟩) c.length cc) ∧ ∀ (i : Nat) (v : Int), c[i]? = some v → U.cell? ⟨cb, co + i, none⟩ = some (.int .i64 v) := fun k c hc => by
    obtain ⟨b', o', x, e', hx, a, cc, rfl, hi⟩ := hpr k c hc
    cases e'
    obtain ⟨l, hl⟩ : ∃ l, ts[k]? = some l := ⟨_, List.getElem?_eq_getElem (by rw [hs.tl]; exact (List.getElem?_eq_some_iff.1 hc).1)⟩
    have hlen := (hs.way k c l hc hl).len
    obtain ⟨v0, hv0⟩ : ∃ v, c[0]? = some v := ⟨_, List.getElem?_eq_getElem (by omega)⟩
    obtain ⟨cb, co, rfl, -⟩ := hi 0 v0 hv0
    refine ⟨cb, co, cc, fun U hU => ?_⟩
    have hb := hBW.trans (hU.mono hBW.size)
    refine ⟨(hb.cell (p := ⟨pb, po + k, none⟩) (block_lt_of_cell hx)).trans hx, fun i v hiv => ?_⟩
    obtain ⟨b2, o2, e2, hc2⟩ := (hi.later hb) i v hiv
    cases e2
    exact hc2
  have HREAD := Nu.hid hread
  have HPATH := Nu.hid hpath
  have HV := Nu.hid hv
  have HM := Nu.hid hM
  have HP := Nu.hid hP
  have HS := Nu.hid hs
  have HBW := Nu.hid hBW
  have HW : Hid (W = (w.alloc (.cells #[.int .i64 (m : Int), .slice ao M ca] 24)).alloc (.cells #[.int .i64 (kd : Int), .slice (some ⟨bb, bo, none⟩) q bc, .slice (some ⟨pb, po, none⟩) P pc] 38)) := by rw [hW, hW1]; exact Nu.hid rfl
  obtain ⟨d0, d1, d2, -⟩ := cells3_15 g2
  have hkq := hs.kdq
  clear hread hpath hv hM hP hs hBW hW hW1 hs1 hB1 hB2 g1 g2 he hbr hpr hb0 hc0 hq5 hP0
  rcases hkq with hk | hk
  · obtain ⟨hk1, rfl⟩ := hk
    have k2 : ((kd : Int) == 2) = false := by rw [hk1]; rfl
    clear hk1
    go_enter Try.func19, Try.ntmps19
    go_upto_region 2 with fail
    rw [← HW.out]
    repeat (first | exact shown_rest m kd 5 M P ca bc pc bb bo pb po ao es br ps ts w W HV.out HM.out HP.out HS.out HBW.out HREAD.out HPATH.out | go_step)
  · obtain ⟨hk1, rfl⟩ := hk
    have k2 : ((kd : Int) == 2) = true := by rw [hk1]; rfl
    clear hk1
    go_enter Try.func19, Try.ntmps19
    go_upto_region 2 with fail
    rw [← HW.out]
    repeat (first | exact shown_rest m kd 6 M P ca bc pc bb bo pb po ao es br ps ts w W HV.out HM.out HP.out HS.out HBW.out HREAD.out HPATH.out | go_step)
end Go.Proofs.Ytdhaaodalchpkaa
