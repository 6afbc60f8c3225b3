import Derived.Test.YtdhaaodalchpkabKwH
import Derived.Test.YtdhaaodalchpkabMgC
import Derived.Test.YtdhaaodalchpkabSiRCp
import Derived.Test.YtdhaaodalchpkabMgI
import Derived.Test.YtdhaaodalchpkabSiValid
import Derived.Test.YtdhaaodalchpkabMgA
import Derived.Deep.QuietTactic
import Derived.BigQuiet
/-
  What KuraOwn wants beside: lists written over, edges written over.
-/
namespace Go.Proofs.Ytdhaaodalchpkab
open Go.RowKit Go.Sort
namespace lawKO

/-- ls' are ls, the first k written over. -/
def Over (ls ls' : List (List Int)) (k : Nat) : Prop := ls'.length = ls.length ∧ ∀ (j : Nat) (l : List Int), ls[j]? = some l → ∃ l', ls'[j]? = some l' ∧ l'.length = l.length ∧ (j < k → l' = List.replicate l.length (-100 - (j : Int)))
theorem row_at {w : World} {B : Nat} {v : Value} {vs : List Value} {ls : List (List Int)} (h : RowsZ w B v vs ls) {k : Nat} {x : Value} (hx : vs[k]? = some x) : ∃ g c, v = .slice (some ⟨g, 0, none⟩) ls.length c ∧ w.cell? ⟨g, k, none⟩ = some x := by
  have hk := (List.getElem?_eq_some_iff.1 hx).1
  have hl := h.len
  rcases h.outer.2 with ⟨e, h0⟩ | ⟨g, cap, cur, e, _⟩
  · omega
  · refine ⟨g, cap, e, ?_⟩
    have := World.ownsRow.cells h.outer (g := g) (by rw [e]; rfl) k x hx
    have ea : ((⟨g, 0, none⟩ : Addr).add k) = ⟨g, k, none⟩ := by
      by_cases h0 : k = 0 <;> simp [Addr.add, h0]
    rwa [ea] at this

/-- One list's block has grown behind its end, or another one has come. -/
theorem RowsZ.grew {W w2 : World} {B S0 : Nat} {v : Value} {vs : List Value} {ls : List (List Int)} {k : Nat} {x : Value} {l : List Int} {r : Option Nat} (h : RowsZ W B v vs ls) (hx : vs[k]? = some x) (hl : ls[k]? = some l) (hg : W.grownBy w2 r) (hr : ∀ b, r = some b → x.ownBlock = some b ∨ S0 ≤ b)
    (hlt : ∀ b, (v.ownBlock = some b ∨ inV vs b) → b < S0 ∧ b < W.heap.size) (hrow : OwnZ w2 B x l) : RowsZ w2 B v vs ls := by
  have key : ∀ b, (v.ownBlock = some b ∨ inV vs b) → x.ownBlock ≠ some b → w2.heap[b]? = W.heap[b]? := fun b hb hne => hg.block b (hlt b hb).2 (fun e => by
    rcases hr b e.symm with h1 | h1
    · exact hne h1
    · have := (hlt b hb).1
      omega)
  refine ⟨h.len, row_same h.outer fun b hb _ _ => key b (.inl hb) (fun e => h.far k x b hx e hb), fun u y q hy hq => ?_, h.apart, h.far⟩
  by_cases e : u = k
  · subst e
    rw [hx] at hy
    cases hy
    rw [hl] at hq
    cases hq
    exact hrow
  · exact (h.row u y q hy hq).same fun b hb _ => key b (.inr ⟨u, y, hy, hb⟩) (fun e2 => h.apart k u x y b (fun e3 => e e3.symm) hx hy e2 hb)

theorem flatE_set2 : ∀ (ps : List (Int × Int)) (a : Nat) (q : Int × Int), flatE (ps.set a q) = ((flatE ps).set (a * 2) (.int .i64 q.1)).set (a * 2 + 1) (.int .i64 q.2)
  | [], a, q => by simp [flatE]
  | p :: ps, 0, q => by simp [flatE]
  | p :: ps, a + 1, q => by
    have ih := flatE_set2 ps a q
    have e : (a + 1) * 2 = a * 2 + 1 + 1 := by omega
    rw [e]
    simpa [flatE] using ih
theorem ownE_put15 {w : World} {B g k c : Nat} {q : List (Int × Int)} (h : OwnE w B (.slice (some ⟨g, 0, none⟩) k c) q) {i : Nat} (hi : i < q.length) (x y : Int) :
    OwnE ((w.setCell ⟨g, i * 2, none⟩ (.int .i64 x)).setCell ⟨g, i * 2 + 1, none⟩ (.int .i64 y)) B (.slice (some ⟨g, 0, none⟩) k c) (q.set i (x, y)) ∧
    (∃ u v, w.cell? ⟨g, i * 2, none⟩ = some u ∧ w.cell? ⟨g, i * 2 + 1, none⟩ = some v) ∧ w.frozen? ⟨g, i * 2, none⟩ = false ∧ w.frozen? ⟨g, i * 2 + 1, none⟩ = false := by
  have hk : k = q.length := by
    rcases h.2 with ⟨h', h0⟩ | ⟨g', cap', cur, e, _⟩
    · injection h'
      omega
    · injection e
  subst hk
  have h' : w.ownsRow B 28 2 (.slice (some ⟨g, 0, none⟩) q.length c) q.length (flatE q) := h
  obtain ⟨s1, _⟩ := h'.stored (i * 2) (.int .i64 x)
  obtain ⟨s2, _⟩ := s1.stored (i * 2 + 1) (.int .i64 y)
  obtain ⟨p, hp⟩ : ∃ p, q[i]? = some p := ⟨_, List.getElem?_eq_getElem hi⟩
  obtain ⟨f0, f1⟩ := flatE_at q i p hp
  have c0 := World.ownsRow.cells h' (g := g) rfl _ _ f0
  have c1 := World.ownsRow.cells h' (g := g) rfl _ _ f1
  rw [addrE] at c0 c1
  refine ⟨?_, ⟨_, _, c0, c1⟩, h'.frozenAt _, h'.frozenAt _⟩
  unfold OwnE
  rw [List.length_set, flatE_set2]
  exact s2
theorem ownE_keep15 {S : Nat → Prop} {w w' : World} {B : Nat} {v : Value} {q : List (Int × Int)} (h : OwnE w B v q) (hw : Wrote S w w') (hS : ∀ b, v.ownBlock = some b → ¬ S b) : OwnE w' B v q := by
  refine ⟨h.1, ?_⟩
  rcases h.2 with h | ⟨g, cap, cur, e, hgB, hh, hr⟩
  · exact .inl h
  · exact .inr ⟨g, cap, cur, e, hgB, (hw.block g (lt_of_block hh) (hS g (by rw [e]; rfl))).trans hh, hr⟩

theorem ownZ_keep15 {S : Nat → Prop} {w w' : World} {B : Nat} {v : Value} {q : List Int} (h : OwnZ w B v q) (hw : Wrote S w w') (hS : ∀ b, v.ownBlock = some b → ¬ S b) : OwnZ w' B v q := h.same fun b hb hl => hw.block b hl (hS b hb)
theorem own_cap15 {w : World} {B g k c : Nat} {es : List (Int × Int)} (h : OwnE w B (.slice (some ⟨g, 0, none⟩) k c) es) : es.length ≤ c := by
  rcases h.2 with ⟨h, _⟩ | ⟨g', cap, cur, e, hb, hh, hc, _⟩
  · cases h
  · injection e with _ _ e3
    omega
end lawKO
end Go.Proofs.Ytdhaaodalchpkab

/-
  The document's own Equal and Copy of graphs.
-/
namespace Go.Proofs.Ytdhaaodalchpkab
open Go.RowKit Go.Sort

namespace Si
def equal (n m : Int) (es fs : List (Int × Int)) : Bool := decide (n = m ∧ es = fs)
theorem equal_yes {n m : Int} {es fs : List (Int × Int)} (h : n = m) (h' : es = fs) : equal n m es fs = true := by simp [equal, h, h']
theorem equal_no {n m : Int} {es fs : List (Int × Int)} (h : n ≠ m ∨ es ≠ fs) : equal n m es fs = false := by
  unfold equal
  rcases h with h | h <;> simp [h]
end Si

set_option maxRecDepth 100000 in
set_option maxHeartbeats 8000000 in
theorem equal_any (n m : Int) (ao bo : Option Addr) (ca cb : Nat) (es fs : List (Int × Int)) (w : World) (he : EdgesAt w ao es) (hf : EdgesAt w bo fs) (hl : es.length ≤ 4611686018427387904) :
    Calls Try.prog 8 #[graphVal n ao es.length ca, graphVal m bo fs.length cb] w fun e w' => e = .returned (.bool (Si.equal n m es fs)) ∧ Below w.heap.size w w' := by
  have HE := Nu.hid he
  have HF := Nu.hid hf
  clear he hf
  unfold graphVal
  have hbw0 : Below w.heap.size w ((w.alloc (.cells #[.int .i64 n, .slice ao es.length ca] 24)).alloc (.cells #[.int .i64 m, .slice bo fs.length cb] 24)) := ((Below.refl _ _).alloc (Nat.le_refl _) _).alloc (by simp) _
  by_cases hnm : n = m
  · by_cases hll : es.length = fs.length
    · have j0 : (n != m) = false := by simp [hnm]
      have j1 : ((es.length : Int) != (fs.length : Int)) = false := by simp [hll]
      have HLL := Nu.hid hll
      have HNM := Nu.hid hnm
      have HBW0 := Nu.hid hbw0
      clear hll hnm hbw0
      go_enter Try.func8, Try.ntmps8
      go_wp2
      go_loopw [5] (fun c wr => ∃ k : Nat, k ≤ es.length ∧ c = .int .i64 k ∧ (∀ j, j < k → es[j]? = fs[j]?) ∧ wr.heap[w.heap.size]? = some (.cells #[.int .i64 n, .slice ao es.length ca] 24 (0, 0)) ∧ wr.heap[w.heap.size + 1]? = some (.cells #[.int .i64 m, .slice bo fs.length cb] 24 (0, 0)) ∧ Below w.heap.size w wr) (fun c _ => es.length - (intOf c).toNat)
      case atStart =>
        refine ⟨0, Nat.zero_le _, rfl, fun j h => by omega, ?_, ?_, HBW0.out⟩
        · rw [Below.heap_alloc _ _ _ (by simp)]
          exact heap_alloc_new w _
        · have := heap_alloc_new (w.alloc (.cells #[.int .i64 n, .slice ao es.length ca] 24)) (.cells #[.int .i64 m, .slice bo fs.length cb] 24)
          simpa using this
      case round =>
        obtain ⟨k, hk, rfl, hsame, hg1, hg2, hb⟩ := hrel
        obtain ⟨-, a1, -⟩ := pair_cells hg1
        obtain ⟨-, b1, -⟩ := pair_cells hg2
        have hs2 := lt_of_block hg2
        have HG1 := Nu.hid hg1
        have HG2 := Nu.hid hg2
        have HSAME := Nu.hid hsame
        have HB := Nu.hid hb
        clear hg1 hg2 hsame
        by_cases hlt : k < es.length
        · have hlti : (k : Int) < (es.length : Int) := by omega
          have hk0 : (0 : Int) ≤ (k : Int) := by omega
          have hlf : (k : Int) < (fs.length : Int) := by have := HLL.out; omega
          obtain ⟨p, hp⟩ : ∃ p, es[k]? = some p := ⟨_, List.getElem?_eq_getElem hlt⟩
          obtain ⟨q, hq⟩ : ∃ q, fs[k]? = some q := ⟨_, List.getElem?_eq_getElem (by omega)⟩
          obtain ⟨b, o, rfl, c0, c1⟩ := (HE.out.later hb) k p hp
          obtain ⟨b', o', rfl, d0, d1⟩ := (HF.out.later hb) k q hq
          have hbl : b < wr.heap.size := block_lt_of_cell c0
          have hbl' : b' < wr.heap.size := block_lt_of_cell d0
          have HP := Nu.hid hp
          have HQ := Nu.hid hq
          clear hp hq hb
          by_cases e1 : p.1 = q.1
          · have t1 : (p.1 != q.1) = false := by simp [e1]
            by_cases e2 : p.2 = q.2
            · have t2 : (p.2 != q.2) = false := by simp [e2]
              have HPQ : Hid (p = q) := Prod.ext e1 e2
              clear e1 e2
              go_wp2_with fail
              go_quiet (fail)
              go_wp2
              go_roundw
              case rel =>
                refine ⟨k + 1, by omega, by go_num, fun j hj => ?_, HG1.out, HG2.out, below_drewN HB.out _⟩
                by_cases hjk : j = k
                · subst hjk; rw [HP.out, HQ.out, HPQ.out]
                · exact HSAME.out j (by omega)
              case measure => simp [intOf]; omega
            · have t2 : (p.2 != q.2) = true := by simp [e2]
              have hv : Si.equal n m es fs = false := Si.equal_no (.inr fun h => by rw [h, HQ.out] at HP; cases HP.out; exact e2 rfl)
              have HV := Nu.hid hv
              clear e1 hv
              go_wp2_with fail
              go_quiet (fail)
              go_wp2
              go_ret
              exact ⟨by rw [HV.out]; rfl, below_drewN HB.out _⟩
          · have t1 : (p.1 != q.1) = true := by simp [e1]
            have hv : Si.equal n m es fs = false := Si.equal_no (.inr fun h => by rw [h, HQ.out] at HP; cases HP.out; exact e1 rfl)
            have HV := Nu.hid hv
            clear hv
            go_wp2_with fail
            go_quiet (fail)
            go_wp2
            go_ret
            exact ⟨by rw [HV.out]; rfl, below_drewN HB.out _⟩
        · have hd : ¬ ((k : Int) < (es.length : Int)) := by omega
          have hv : Si.equal n m es fs = true := Si.equal_yes HNM.out (List.ext_getElem? fun j => by
            by_cases hj : j < k
            · exact HSAME.out j hj
            · rw [List.getElem?_eq_none (by omega), List.getElem?_eq_none (by have := HLL.out; omega)])
          have HV := Nu.hid hv
          clear hv hb
          go_wp2
          go_ret
          exact ⟨by rw [HV.out]; rfl, HB.out⟩
    · have j0 : (n != m) = false := by simp [hnm]
      have j1 : ((es.length : Int) != (fs.length : Int)) = true := by simp; omega
      have hv : Si.equal n m es fs = false := Si.equal_no (.inr fun h => hll (by rw [h]))
      rw [hv]
      clear hll hnm hv
      go_enter Try.func8, Try.ntmps8
      go_wp2
      go_ret
      exact ⟨rfl, hbw0⟩
  · have j0 : (n != m) = true := by simp [hnm]
    have hv : Si.equal n m es fs = false := Si.equal_no (.inl hnm)
    rw [hv]
    clear hnm hv
    go_enter Try.func8, Try.ntmps8
    go_wp2
    go_ret
    exact ⟨rfl, hbw0⟩

end Go.Proofs.Ytdhaaodalchpkab

/-
  What KuraOwn wants beside: answers in memory of their own; lists of lists joined.
-/
namespace Go.Proofs.Ytdhaaodalchpkab
open Go.RowKit Go.Sort

namespace Ku
def KcO (r : List (List Int) × Int) (w : World) (e : Ending) (w' : World) : Prop := ∃ a c us, e = .returned (.tuple #[.slice a r.1.length c, .int .i64 r.2]) ∧ RowsZ w' w.heap.size (.slice a r.1.length c) us r.1 ∧ Below w.heap.size w w'
theorem kcO_of {n : Int} {es : List (Int × Int)} {w w' : World} {e : Ending} (h : ChainsP n es w e w') : KcO (kc n es) w e w' := by
  obtain ⟨hc, hb⟩ := h
  unfold kc
  rcases hc with ⟨hv, rfl⟩ | ⟨hv, v, us, rfl, hr⟩
  · have hn : ¬ Si.Val n es := fun h => by rw [Si.valid_iff.2 h] at hv; cases hv
    rw [dif_neg hn]
    exact ⟨none, 0, [], rfl, RowsZ.nil _ _, hb⟩
  · rw [dif_pos hv]
    obtain ⟨a, c, rfl⟩ := row_shape hr
    exact ⟨a, c, us, rfl, hr, hb⟩
def KrO (r : Int × List Int × List (List Int) × Bool × Int) (w : World) (e : Ending) (w' : World) : Prop :=
  ∃ a1 c1 a2 c2 vs, e = .returned (.tuple #[.agg #[.int .i64 r.1, .slice a1 r.2.1.length c1, .slice a2 r.2.2.1.length c2], .bool r.2.2.2.1, .int .i64 r.2.2.2.2]) ∧ OwnZ w' w.heap.size (.slice a1 r.2.1.length c1) r.2.1 ∧ RowsZ w' w.heap.size (.slice a2 r.2.2.1.length c2) vs r.2.2.1 ∧ (∀ b, (Value.slice a1 r.2.1.length c1).ownBlock = some b → (Value.slice a2 r.2.2.1.length c2).ownBlock ≠ some b ∧ ¬ inV vs b) ∧ Below w.heap.size w w'
theorem krO_of {n : Int} {es : List (Int × Int)} {w w' : World} {e : Ending} (h : PRecP n es w e w') : KrO (kr n es) w e w' := by
  obtain ⟨hc, hb⟩ := h
  rcases hc with ⟨hv, rfl⟩ | ⟨m, hv, rfl, ha⟩
  · rw [kr_no hv]
    exact ⟨none, 0, none, 0, [], rfl, OwnZ.nil _ _, RowsZ.nil _ _, fun b h0 => (by cases h0), hb⟩
  · rw [kr_yes hv]
    cases hr : recA (rows es hv es.length) es m with
    | none =>
      rw [hr] at ha
      exact ⟨none, 0, none, 0, [], ha, OwnZ.nil _ _, RowsZ.nil _ _, fun b h0 => (by cases h0), hb⟩
    | some x =>
      obtain ⟨kd, br, ps⟩ := x
      rw [hr] at ha
      obtain ⟨bv, pv, vs, rfl, h1, h2, h3⟩ := ha
      obtain ⟨ba, bc, rfl, _, -⟩ := h1.form
      obtain ⟨pa, pc, rfl⟩ := row_shape h2
      exact ⟨ba, bc, pa, pc, vs, rfl, h1, h2, h3, hb⟩
def KrN (r : Int × List Int × List (List Int) × Bool × Int) (w : World) (e : Ending) (w' : World) : Prop :=
  ∃ a1 c1 a2 c2, e = .returned (.tuple #[.agg #[.int .i64 r.1, .slice a1 r.2.1.length c1, .slice a2 r.2.2.1.length c2], .bool r.2.2.2.1, .int .i64 r.2.2.2.2]) ∧ IntsAt w' a1 r.2.1 ∧ NewI w.heap.size (.slice a1 r.2.1.length c1) ∧ SeesLN w.heap.size w' (.slice a2 r.2.2.1.length c2) r.2.2.1 ∧ Below w.heap.size w w'
theorem seesN_nil (B : Nat) (w : World) : SeesLN B w (.slice none 0 0) [] := ⟨none, 0, rfl, fun k l h => by simp at h⟩
theorem krN_of {n : Int} {es : List (Int × Int)} {w w' : World} {e : Ending} (h : RecP n es w e w') : KrN (kr n es) w e w' := by
  obtain ⟨hc, hb⟩ := recP_ans h
  rcases hc with ⟨hv, rfl⟩ | ⟨m, hv, rfl, ha⟩
  · rw [kr_no hv]
    exact ⟨none, 0, none, 0, rfl, ints_nil _, fun b h0 => (by cases h0), seesN_nil _ _, hb⟩
  · rw [kr_yes hv]
    cases hr : recA (rows es hv es.length) es m with
    | none =>
      rw [hr] at ha
      exact ⟨none, 0, none, 0, ha, ints_nil _, fun b h0 => (by cases h0), seesN_nil _ _, hb⟩
    | some x =>
      obtain ⟨kd, br, ps⟩ := x
      rw [hr] at ha
      obtain ⟨v1, v2, rfl, ⟨a1, c1, rfl, h1⟩, h0, h2⟩ := ha
      obtain ⟨a2, c2, rfl, h3⟩ := id h2
      exact ⟨a1, c1, a2, c2, rfl, h1, h0, h2, hb⟩
end Ku
theorem pchains_own (n : Int) (ao : Option Addr) (cap : Nat) (es : List (Int × Int)) (w : World) (he : EdgesAt w ao es) (hl : es.length ≤ 4611686018427387904) :
    Calls Try.prog 6 #[.agg #[.int .i64 n, .slice ao es.length cap]] w (Ku.KcO (Ku.kc n es) w) := (pchains_any n ao cap es w he hl).mono fun _ _ h => Ku.kcO_of h
theorem dchains_own (n : Int) (ao : Option Addr) (cap : Nat) (es : List (Int × Int)) (w : World) (he : EdgesAt w ao es) (hl : es.length ≤ 4611686018427387904) :
    Calls Try.prog 9 #[.agg #[.int .i64 n, .slice ao es.length cap]] w (Ku.KcO (Ku.kc n es) w) := (kchains_any n ao cap es w he hl).mono fun _ _ h => Ku.kcO_of h
theorem precognise_own (n : Int) (ao : Option Addr) (cap : Nat) (es : List (Int × Int)) (w : World) (he : EdgesAt w ao es) (hl : es.length ≤ 4611686018427387904) :
    Calls Try.prog 7 #[.agg #[.int .i64 n, .slice ao es.length cap]] w (Ku.KrO (Ku.kr n es) w) := (precognise_any n ao cap es w he hl).mono fun _ _ h => Ku.krO_of h
theorem drecognise_new (n : Int) (ao : Option Addr) (cap : Nat) (es : List (Int × Int)) (w : World) (he : EdgesAt w ao es) (hl : es.length ≤ 4611686018427387904) :
    Calls Try.prog 10 #[.agg #[.int .i64 n, .slice ao es.length cap]] w (Ku.KrN (Ku.kr n es) w) := (krecognise_any n ao cap es w he hl).mono fun _ _ h => Ku.krN_of h
theorem equal15_two {n : Int} {ao bo : Option Addr} {ca cb : Nat} {es : List (Int × Int)} {w : World} (he : EdgesAt w ao es) (hf : EdgesAt w bo es) (hl : es.length ≤ 4611686018427387904) : Calls Try.prog 8 #[.agg #[.int .i64 n, .slice ao es.length ca], .agg #[.int .i64 n, .slice bo es.length cb]] w fun e w' => e = .returned (.bool true) ∧ Below w.heap.size w w' := (equal_any n n ao bo ca cb es es w he hf hl).mono (by
  rintro e w' ⟨h1, h2⟩
  exact ⟨by rw [h1, Si.equal_yes rfl rfl], h2⟩)
theorem rows_empty {U : World} {B g : Nat} (hB : B ≤ g) (hg : U.heap[g]? = some (.cells #[] 34 (0, 0))) : RowsZ U B (.slice (some ⟨g, 0, none⟩) 0 0) [] [] :=
  ⟨rfl, ⟨rfl, .inr ⟨g, 0, #[], rfl, hB, hg, Nat.le_refl _, by unfold maxLen; omega, rfl, rfl⟩⟩, fun u x l hx => by simp at hx, fun u u' x x' b _ hx => by simp at hx, fun u x b hx => by simp at hx⟩
/-- 'append(v, rows...)'. -/
theorem wp_pushR15 {B : Nat} {v : Value} {vs : List Value} {U : World} {o : Oper} {a : Act} {K : Act → World → Prop} {Q : Exit → Act → World → Prop} (s x : Operand) (ho : o.op = .call { callee := .builtin .append, args := #[s, x], argTypes := #[29, 29] })
    (L : List (List Int)) (hR : RowsZ U B v vs L) (hB : B ≤ U.heap.size) (hs : a.eval s = v) (B2 : Nat) (p4 : Option Addr) (kl q4 : Nat) (vo : List Value) (ls : List (List Int)) (hkl : ls.length = kl) (hx : a.eval x = .slice p4 kl q4) (hp4 : p4 = none → q4 = 0) (hRo : RowsZ U B2 (.slice p4 kl q4) vo ls) (hB2 : B ≤ B2) (hdis : ∀ b, inV vo b → ¬ (v.ownBlock = some b ∨ inV vs b))
    (hl : (L.length + kl) * 24 ≤ 140737488355328)
    (h : ∀ v' w', RowsZ w' B v' (vs ++ vo) (L ++ ls) → U.grownBy w' v.ownBlock → (v'.ownBlock = v.ownBlock ∨ v'.ownBlock = some U.heap.size) → K (a.put o.dst v') w') : o.wp Try.prog a U K Q := by
  subst hkl
  refine wp_rows_more s x ho B v vs vo L ls hR hB hs p4 ls.length q4 rfl hx hp4 hRo.len (fun j u hj => ?_) (fun u hu => ?_) (fun u x l hx hl => (hRo.row u x l hx hl).lower hB2) hRo.apart hdis hl h
  · rcases hRo.outer.2 with ⟨e, h0⟩ | ⟨g, cap, cur, e, _⟩
    · have := (List.getElem?_eq_some_iff.1 hj).1
      rw [hRo.len] at this
      omega
    · cases e
      exact ⟨_, rfl, World.ownsRow.cells hRo.outer (g := g) rfl j u hj⟩
  · obtain ⟨j, hj⟩ := List.getElem?_of_mem hu
    obtain ⟨l, hl'⟩ := hRo.at hj
    obtain ⟨a', c', rfl, _⟩ := (hRo.row j u l hj hl').form
    rfl
end Go.Proofs.Ytdhaaodalchpkab
