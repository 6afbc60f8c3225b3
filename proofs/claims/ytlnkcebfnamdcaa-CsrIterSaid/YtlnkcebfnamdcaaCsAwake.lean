/-
  That the fixed fact of layer 4's statements is true; an Adj of a copied graph.
-/
import Derived.Test.YtlnkcebfnamdcaaCsOut
import Derived.Test.YtlnkcebfnamdcaaCsHalf
import Derived.Test.YtlnkcebfnamdcaaCsRef
namespace Go.Proofs.Ytlnkcebfnamdcaa
open Go.RowKit Go.Sort

theorem AdjAt.lower {w : World} {B B' p n : Nat} {es : List (Int × Int)} (h : AdjAt w B p n es) (hB : B' ≤ B) : AdjAt w B' p n es := by
  obtain ⟨gd, gs, gh, gp, gt, h⟩ := h
  have h1 := h.bp
  have h2 := h.bd
  have h3 := h.bs
  have h4 := h.bh
  have h5 := h.bq
  have h6 := h.bt
  exact ⟨gd, gs, gh, gp, gt, h.blk, h.deg, h.start, h.half, h.place, h.goes, by omega, by omega, by omega, by omega, by omega, by omega, h.ld, h.ls, h.lh, h.lq, h.lt⟩

/-- New, of a graph that is valid. -/
theorem cnew_yes {m : Nat} {ao : Option Addr} {cap : Nat} {es : List (Int × Int)} {w : World} (he : EdgesAt w ao es) (hv : Si.Val m es) :
    Calls Try.prog 25 #[graphVal m ao es.length cap] w fun e w' => ∃ p : Nat, e = .returned (.tuple #[.pointer (some ⟨p, 0, none⟩), .int .i64 0]) ∧ AdjAt w' w.heap.size p m es ∧ Below w.heap.size w w' := by
  refine (cnew_any m ao cap es w he (by have := hv.few; omega)).mono ?_
  rintro e w' ⟨⟨m', p, h1, h2, h3, h4⟩ | ⟨h1, _⟩, hb⟩
  · obtain rfl : m = m' := by omega
    exact ⟨p, h3, h4, hb⟩
  · rw [Si.valid_iff.2 hv] at h1
    cases h1

/-- New, of a graph that is not. -/
theorem cnew_no {n : Int} {ao : Option Addr} {cap : Nat} {es : List (Int × Int)} {w : World} (he : EdgesAt w ao es) (hl : es.length ≤ 4611686018427387904) (hv : Si.valid n es = false) :
    Calls Try.prog 25 #[graphVal n ao es.length cap] w fun e w' => e = .returned (.tuple #[.pointer none, .int .i64 1]) ∧ Below w.heap.size w w' := by
  refine (cnew_any n ao cap es w he hl).mono ?_
  rintro e w' ⟨⟨m', p, h1, h2, h3, h4⟩ | ⟨_, h1⟩, hb⟩
  · rw [Si.valid_iff.2 h2] at hv
    cases hv
  · exact ⟨h1, hb⟩

def wakeEs : List (Int × Int) := [(0, 1), (0, 2), (1, 2)]
theorem wake_val : Si.Val (4 : Nat) wakeEs := by
  refine ⟨by decide, by decide, by decide, fun j p hj => ?_, fun j p q hp hq => ?_⟩
  · match j, hj with
    | 0, hj => cases hj; unfold Si.ok; decide
    | 1, hj => cases hj; unfold Si.ok; decide
    | 2, hj => cases hj; unfold Si.ok; decide
  · match j, hp, hq with
    | 0, hp, hq => cases hp; cases hq; unfold Si.lt; decide
    | 1, hp, hq => cases hp; cases hq; unfold Si.lt; decide
theorem wake_out : Cs.outZ 4 wakeEs 2 = [3, 5] := by decide
theorem wake_deg : (Cs.outI 4 wakeEs 2).length = 2 := by decide
theorem wake_to : Cs.toI wakeEs 5 = 1 := by decide

set_option maxRecDepth 100000 in
set_option maxHeartbeats 4000000 in
theorem awake_any (w : World) : Calls Try.prog 7 #[] w fun e w' => e = .returned (.bool true) ∧ Below w.heap.size w w' := by
  have hE : EdgesAt (w.alloc (.cells #[.int .i64 0, .int .i64 1, .int .i64 0, .int .i64 2, .int .i64 1, .int .i64 2] 44)) (some ⟨w.heap.size, 0, none⟩) wakeEs := fun j p hj => by
    refine ⟨w.heap.size, 0, rfl, ?_⟩
    match j, hj with
    | 0, hj => cases hj; simp
    | 1, hj => cases hj; simp
    | 2, hj => cases hj; simp
  have hb0 : Below w.heap.size w (w.alloc (.cells #[.int .i64 0, .int .i64 1, .int .i64 0, .int .i64 2, .int .i64 1, .int .i64 2] 44)) := (Below.refl _ _).alloc (Nat.le_refl _) _
  have hn := cnew_yes (cap := 3) hE wake_val
  unfold graphVal at hn
  have hl3 : wakeEs.length = 3 := rfl
  rw [hl3] at hn
  have HN := Nu.hid hn
  have HB0 := Nu.hid hb0
  clear hE hn hb0 hl3
  go_enter Try.func7, Try.ntmps7
  go_wp2_with (go_at_call 25; refine HN.out.mono ?_; rintro e w1 ⟨p, rfl, ha, hb1⟩; refine Hid.out ?_)
  refine Nu.hid ?_
  have hadj : IsAdj w1 (.pointer (some ⟨p, 0, none⟩)) 4 wakeEs := .inr ⟨_, p, rfl, wake_val, ha⟩
  have HD := degree_any _ _ _ 2 w1 hadj
  rw [wake_deg] at HD
  have HT := to_any _ _ _ 5 w1 hadj
  rw [wake_to] at HT
  have HO := out_any _ _ _ 2 9 w1 hadj
  have hd := Nu.hid HD
  have ht := Nu.hid HT
  have ho := Nu.hid HO
  have HB1 := Nu.hid (HB0.out.trans (hb1.mono HB0.out.size))
  clear ha hb1 hadj HD HT HO HN HB0
  go_wp2_with (first | (go_at_call 21; refine hd.out.mono ?_; rintro e w2 ⟨rfl, rfl⟩) | (go_at_call 17; refine ht.out.mono ?_; rintro e w2 ⟨rfl, rfl⟩) | (go_at_call 20; refine ho.out.mono ?_; rintro e w3 ⟨u, rfl, hz, hb3⟩; refine Hid.out ?_))
  refine Nu.hid ?_
  have ez : (Cs.outZ 4 wakeEs 2).take ((9 : Int).toNat + 1) = [3, 5] := by rw [wake_out]; rfl
  rw [ez] at hz
  obtain ⟨g, cap, rfl⟩ := ownsRow_succ (k := 1) hz
  have hi := ints_in_row (xs := [3, 5]) hz
  have c0 := hi.cell (i := 0) (x := 3) rfl
  have c1 := hi.cell (i := 1) (x := 5) rfl
  have HB3 := Nu.hid (HB1.out.trans (hb3.mono HB1.out.size))
  clear hz hi hb3 ez
  go_wp2
  go_ret
  exact ⟨rfl, HB3.out⟩

/-- The answer of New, be the graph valid or not. -/
def NewQ (n : Int) (es : List (Int × Int)) (B : Nat) (w' : World) (q : Option Addr) : Prop :=
  (∃ m p : Nat, n = (m : Int) ∧ Si.Val n es ∧ q = some ⟨p, 0, none⟩ ∧ AdjAt w' B p m es) ∨ (Si.valid n es = false ∧ q = none)

theorem cnew_q {n : Int} {ao : Option Addr} {cap : Nat} {es : List (Int × Int)} {w : World} (he : EdgesAt w ao es) (hl : es.length ≤ 4611686018427387904) :
    Calls Try.prog 25 #[graphVal n ao es.length cap] w fun e w' => ∃ q z, e = .returned (.tuple #[.pointer q, .int .i64 z]) ∧ (NewQ n es w.heap.size w' q ∧ (q = none → z = 1) ∧ (q ≠ none → z = 0)) ∧ Below w.heap.size w w' := by
  refine (cnew_any n ao cap es w he hl).mono ?_
  rintro e w' ⟨⟨m', p, h1, h2, h3, h4⟩ | ⟨h0, h1⟩, hb⟩
  · exact ⟨_, _, h3, ⟨.inl ⟨m', p, h1, h2, rfl, h4⟩, (fun h => by cases h), fun _ => rfl⟩, hb⟩
  · exact ⟨_, _, h1, ⟨.inr ⟨h0, rfl⟩, fun _ => rfl, fun h => absurd rfl h⟩, hb⟩

theorem NewQ.same {n : Int} {es : List (Int × Int)} {B : Nat} {w w' : World} {q : Option Addr} (h : NewQ n es B w q) (hs : w.heap.size ≤ w'.heap.size) (hk : ∀ k, B ≤ k → k < w.heap.size → w'.heap[k]? = w.heap[k]?) : NewQ n es B w' q := by
  rcases h with ⟨m, p, h1, h2, h3, h4⟩ | h
  · exact .inl ⟨m, p, h1, h2, h3, h4.same hs hk⟩
  · exact .inr h

theorem NewQ.later {n : Int} {es : List (Int × Int)} {B : Nat} {w w' : World} {q : Option Addr} (h : NewQ n es B w q) (hb : Below w.heap.size w w') : NewQ n es B w' q := h.same hb.size fun k _ h2 => hb.block k h2

set_option maxRecDepth 100000 in
set_option maxHeartbeats 4000000 in
/-- The statements' own 'adj'. -/
theorem adj_any (n : Int) (ao : Option Addr) (ca : Nat) (es : List (Int × Int)) (w : World) (he : EdgesAt w ao es) (hn : ao = none → ca = 0) (hl : es.length * 16 ≤ 140737488355328) :
    Calls Try.prog 8 #[graphVal n ao es.length ca] w fun e w' => ∃ q z, e = .returned (.tuple #[.pointer q, .int .i64 z]) ∧ (NewQ n es w.heap.size w' q ∧ (q = none → z = 1) ∧ (q ≠ none → z = 0)) ∧ Below w.heap.size w w' := by
  have hb0 : Below w.heap.size w (w.alloc (.cells #[.int .i64 n, .slice ao es.length ca] 24)) := (Below.refl _ _).alloc (Nat.le_refl _) _
  have hcp := r4copy_any n ao ca es _ (he.later hb0) hn hl
  unfold graphVal at hcp ⊢
  have HCP := Nu.hid hcp
  have HB0 := Nu.hid hb0
  have hnw : ∀ W gb c, OwnE W (w.heap.size + 1) (.slice (some ⟨gb, 0, none⟩) es.length c) es → Calls Try.prog 25 #[.agg #[.int .i64 n, .slice (some ⟨gb, 0, none⟩) es.length c]] W fun e w' => ∃ q z, e = .returned (.tuple #[.pointer q, .int .i64 z]) ∧ (NewQ n es W.heap.size w' q ∧ (q = none → z = 1) ∧ (q ≠ none → z = 0)) ∧ Below W.heap.size W w' := fun W gb c h => by
    obtain ⟨ao', cap', e, _, _, hat, _⟩ := h.form
    cases e
    exact cnew_q (cap := c) hat (by omega)
  have HNW := Nu.hid hnw
  clear hcp he hn hb0 hnw
  go_enter Try.func8, Try.ntmps8
  go_wp2_with (go_at_call 24; refine HCP.out.mono ?_; rintro e w1 ⟨gb, c, rfl, how, hb1⟩; refine Hid.out ?_)
  refine Nu.hid ?_
  rw [World.size_alloc] at how
  have HN2 := Nu.hid (HNW.out w1 gb c how)
  have HB1 := Nu.hid (HB0.out.trans (hb1.mono HB0.out.size))
  clear how hb1 HCP HNW
  go_wp2_with (go_at_call 25; refine HN2.out.mono ?_; rintro e w2 ⟨q, z, rfl, hq, hb2⟩; have HQ := Nu.hid hq; have HB2 := Nu.hid hb2; clear hq hb2)
  go_ret2
  refine ⟨q, z, rfl, ⟨?_, HQ.out.2⟩, HB1.out.trans (HB2.out.mono HB1.out.size)⟩
  rcases HQ.out.1 with ⟨m, p, h1, h2, h3, h4⟩ | h
  · exact .inl ⟨m, p, h1, h2, h3, h4.lower HB1.out.size⟩
  · exact .inr h

end Go.Proofs.Ytlnkcebfnamdcaa
