/-
  The document's own Without.
-/
import Derived.Test.YtdkckdbpbdhoaaaEdR2
import Derived.Test.YtdkckdbpbdhoaaaSiRValid
namespace Go.Proofs.Ytdkckdbpbdhoaaa
open Go.RowKit Go.Sort

theorem slice_if (c : Prop) [Decidable c] (a b : Addr) (n m : Nat) : Value.slice (if c then some a else some b) n m = Value.slice (some (if c then a else b)) n m := by
  split <;> rfl
/-- Those behind the k-th. -/
theorem edges_cut {w : World} {b o cap k : Nat} {es : List (Int × Int)} (h : EdgesAt w (some ⟨b, o, none⟩) es) (hc : es.length ≤ cap) : EdgesAt w (some (if cap = k then ⟨b, o, none⟩ else ⟨b, o + k * 2, none⟩)) (es.drop k) := by
  intro j p hj
  rw [List.getElem?_drop] at hj
  have hl := (List.getElem?_eq_some_iff.1 hj).1
  obtain ⟨b', o', e, h0, h1⟩ := h (k + j) p hj
  cases e
  rw [if_neg (by omega)]
  refine ⟨b, o + k * 2, rfl, ?_, ?_⟩
  · rw [show o + k * 2 + j * 2 = o + (k + j) * 2 by omega]; exact h0
  · rw [show o + k * 2 + j * 2 + 1 = o + (k + j) * 2 + 1 by omega]; exact h1
/-- 'append(v, xs...)', one operation by itself. -/
theorem wp_extendE {W : World} {o : Oper} {a : Act} {K : Act → World → Prop} {Q : Exit → Act → World → Prop} (s x : Operand)
    (ho : o.op = .call { callee := .builtin .append, args := #[s, x], argTypes := #[22, 22] }) (B : Nat) (v : Value) (l xs : List (Int × Int)) (hown : OwnE W B v l) (y : Addr) (xc n : Nat) (hn : xs.length = n) (hx0 : EdgesAt W (some y) xs)
    (hB : B ≤ W.heap.size) (hl : l.length + xs.length ≤ 8796093021952) (hs : a.eval s = v) (hx : a.eval x = .slice (some y) n xc)
    (h : ∀ v' w', OwnE w' B v' (l ++ xs) → Below B W w' → K (a.put o.dst v') w') : o.wp Try.prog a W K Q := by
  obtain ⟨i0, hi, hz0, hz1, hz2⟩ := info_parts Try.infoEdge
  subst hn
  refine wp_append_own W s x 22 ho B 26 i0 (.agg #[.int .i64 0, .int .i64 0]) 2 16 Try.underlying22 hi hz0 hz1 hz2 rfl (by decide) v l.length (flatE l) hs hown y xs.length xc (flatE xs) hx (flatE_length xs) (edge_news hx0) (flatE_oneCell xs) (by unfold maxLen; omega) (by omega) hB ?_
  intro v' w' hown' hg _
  refine h v' w' ?_ ((Below.refl B W).grown hg hB (fun b hb => (World.ownsRow.lt hown b hb).1))
  unfold OwnE
  rw [List.length_append, flatE_append]
  exact hown'

/-- The first k of a list's edges, and those behind. -/
theorem EdgesAt.fst {w : World} {ao : Option Addr} {es : List (Int × Int)} (h : EdgesAt w ao es) (k : Nat) : EdgesAt w ao (es.take k) := fun j p hj => by
  refine h j p ?_
  rw [List.getElem?_take] at hj
  split at hj
  · exact hj
  · cases hj

set_option maxRecDepth 100000 in
set_option maxHeartbeats 8000000 in
theorem rwithout_any (n : Int) (e : Int) (ao : Option Addr) (cap : Nat) (es : List (Int × Int)) (w : World) (he : EdgesAt w ao es) (hnil : NilOk ao es cap) (hl : es.length ≤ 4611686018427387904) (hcp : es.length ≤ cap) :
    Calls Try.prog 12 #[graphVal n ao es.length cap, .int .i64 e] w (AnsP (Ed.without n es e) w) := by
  have HE := Nu.hid he
  have HNIL := Nu.hid hnil
  have hva := fun W (hb : Below w.heap.size w W) => rvalid_any n ao cap es W (he.later hb) hl
  have hB0 := Bx1.start (w := w) (n := n) (ao := ao) (cap := cap) (es := es)
  unfold graphVal at hva ⊢
  have HVA := Nu.hid hva
  have HB0 := Nu.hid hB0
  clear he hva hB0 hnil
  cases hv : Si.valid n es with
  | false =>
    have hr : Ed.without n es e = (0, [], 1) := by unfold Ed.without; rw [if_pos hv]
    rw [hr]
    rw [hv] at HVA
    clear hv hr
    go_enter Try.func12, Try.ntmps12
    go_wp2_with (go_at_call 33; refine (HVA.out _ HB0.out.low).mono ?_; rintro e w1 ⟨rfl, hb⟩; refine Hid.out ?_)
    refine Nu.hid ?_
    have HB1 := Nu.hid (HB0.out.later hb)
    clear hb
    obtain ⟨g0, g1⟩ := HB1.out.cells
    have hs1 := HB1.out.size
    have hs0 : w.heap.size < w1.heap.size := by omega
    obtain ⟨r0, r1⟩ := HB1.out.rcells
    have f0 := HB1.out.free 0
    have f1 := HB1.out.free 1
    go_wp2
    obtain ⟨hb, s0, s1⟩ := HB1.out.store (.int .i64 0) (.slice none 0 0)
    refine bodyPost_ret (v := .tuple #[.agg #[.int .i64 0, .slice none 0 0], .int .i64 1]) (by simp [results, Try.results12, go_sem, s0, s1]) rfl ?_
    exact ⟨_, rfl, OwnE.nil _ _, hb⟩
  | true =>
    have hval := Si.valid_iff.1 hv
    have hfew := hval.few
    have hlo := hval.lo
    have hhi := hval.hi
    have HVAL := Nu.hid hval
    have HV := Nu.hid hv
    rw [hv] at HVA
    clear hv hval
    by_cases hneg : e < 0
    · have hr : Ed.without n es e = (0, [], 2) := by
        unfold Ed.without
        rw [if_neg (by rw [HV.out]; simp), if_pos (.inl hneg)]
      rw [hr]
      clear hr
      go_enter Try.func12, Try.ntmps12
      go_wp2_with (go_at_call 33; refine (HVA.out _ HB0.out.low).mono ?_; rintro e w1 ⟨rfl, hb⟩; refine Hid.out ?_)
      refine Nu.hid ?_
      have HB1 := Nu.hid (HB0.out.later hb)
      clear hb
      obtain ⟨g0, g1⟩ := HB1.out.cells
      have hs1 := HB1.out.size
      have hs0 : w.heap.size < w1.heap.size := by omega
      obtain ⟨r0, r1⟩ := HB1.out.rcells
      have f0 := HB1.out.free 0
      have f1 := HB1.out.free 1
      go_wp2
      obtain ⟨hb, s0, s1⟩ := HB1.out.store (.int .i64 0) (.slice none 0 0)
      refine bodyPost_ret (v := .tuple #[.agg #[.int .i64 0, .slice none 0 0], .int .i64 2]) (by simp [results, Try.results12, go_sem, s0, s1]) rfl ?_
      exact ⟨_, rfl, OwnE.nil _ _, hb⟩
    by_cases hbig : (es.length : Int) ≤ e
    · have hr : Ed.without n es e = (0, [], 2) := by
        unfold Ed.without
        rw [if_neg (by rw [HV.out]; simp), if_pos (.inr hbig)]
      rw [hr]
      clear hr
      go_enter Try.func12, Try.ntmps12
      go_wp2_with (go_at_call 33; refine (HVA.out _ HB0.out.low).mono ?_; rintro e w1 ⟨rfl, hb⟩; refine Hid.out ?_)
      refine Nu.hid ?_
      have HB1 := Nu.hid (HB0.out.later hb)
      clear hb
      obtain ⟨g0, g1⟩ := HB1.out.cells
      have hs1 := HB1.out.size
      have hs0 : w.heap.size < w1.heap.size := by omega
      obtain ⟨r0, r1⟩ := HB1.out.rcells
      have f0 := HB1.out.free 0
      have f1 := HB1.out.free 1
      go_wp2
      obtain ⟨hb, s0, s1⟩ := HB1.out.store (.int .i64 0) (.slice none 0 0)
      refine bodyPost_ret (v := .tuple #[.agg #[.int .i64 0, .slice none 0 0], .int .i64 2]) (by simp [results, Try.results12, go_sem, s0, s1]) rfl ?_
      exact ⟨_, rfl, OwnE.nil _ _, hb⟩
    obtain ⟨k, rfl⟩ : ∃ k : Nat, e = (k : Int) := ⟨e.toNat, by omega⟩
    have hkl : k < es.length := by omega
    obtain ⟨R, hR⟩ : ∃ R, es.take k ++ es.drop (k + 1) = R := ⟨_, rfl⟩
    have hr : Ed.without n es (k : Int) = (n, R, 0) := by
      unfold Ed.without
      rw [if_neg (by rw [HV.out]; simp), if_neg (by omega), Int.toNat_natCast, List.eraseIdx_eq_take_drop_succ, hR]
    have HRR := Nu.hid hR
    clear hR
    rw [hr]
    obtain ⟨x, hx⟩ : ∃ x, es[k]? = some x := ⟨_, List.getElem?_eq_getElem hkl⟩
    obtain ⟨b, o, rfl, hcc, _⟩ := HE.out k _ hx
    have hbw : b < w.heap.size := block_lt_of_cell hcc
    have hk0 : (0 : Int) ≤ (k : Int) := by omega
    have hk1 : (k : Int) < (es.length : Int) := by omega
    have htl : (es.take k).length = k := by rw [List.length_take]; omega
    have hdl : (es.drop (k + 1)).length = es.length - (k + 1) := List.length_drop
    have hkp := fun W (hb : Below w.heap.size w W) => kept_any (some ⟨b, o, none⟩) k cap (es.take k) W htl ((HE.out.later hb).fst k) (fun h => by cases h) (by omega)
    have HKP := Nu.hid hkp
    clear hr hx hcc hkp
    go_enter Try.func12, Try.ntmps12
    go_wp2_with (go_at_call 33; refine (HVA.out _ HB0.out.low).mono ?_; rintro e w1 ⟨rfl, hb⟩; refine Hid.out ?_)
    refine Nu.hid ?_
    have HB1 := Nu.hid (HB0.out.later hb)
    clear hb
    obtain ⟨g0, g1⟩ := HB1.out.cells
    have hs1 := HB1.out.size
    have hs0 : w.heap.size < w1.heap.size := by omega
    obtain ⟨r0, r1⟩ := HB1.out.rcells
    have f0 := HB1.out.free 0
    have f1 := HB1.out.free 1
    go_wp2_with (go_at_call 39; refine (HKP.out _ HB1.out.low).mono ?_; rintro e w3 ⟨ka, kc, rfl, hown, hb3⟩; refine Hid.out ?_)
    refine Nu.hid ?_
    have HB3 := Nu.hid (HB1.out.later hb3)
    have HKO := Nu.hid hown
    have hs3 := HB3.out.size
    have hs13 : w1.heap.size ≤ w3.heap.size := hb3.size
    clear hown hb3 g0 g1 r0 r1 f0 f1
    obtain ⟨g0, g1⟩ := HB3.out.cells
    have hs30 : w.heap.size < w3.heap.size := by omega
    have hwk : IntKind.i64.wrap ((k : Int) + 1) = (k : Int) + 1 := wrap_small _ (by omega) (by omega)
    have HED : Hid (∀ W, Below w.heap.size w W → EdgesAt W (some ⟨b, o, none⟩) es) := fun W hb => HE.out.later hb
    obtain ⟨k1, hk1e⟩ : ∃ k1 : Nat, (k : Int) + 1 = (k1 : Int) := ⟨k + 1, by omega⟩
    have hk1n : k + 1 = k1 := by omega
    have HK1N := Nu.hid hk1n
    have hw1 : IntKind.i64.wrap (k1 : Int) = (k1 : Int) := wrap_small _ (by omega) (by omega)
    have hle0 : (0 : Int) ≤ (k1 : Int) := by omega
    have hle1 : (k1 : Int) ≤ (es.length : Int) := by omega
    have hle2 : (es.length : Int) ≤ (cap : Int) := by omega
    have hle3 : (k1 : Int) ≤ (cap : Int) := by omega
    have HRK : Hid (es.take k ++ es.drop k1 = R) := by rw [← HK1N.out]; exact HRR.out
    clear hwk hk1n
    go_wp2
    go_region_held3 (fun w' => w'.cell? ⟨w.heap.size, 0, none⟩ = some (.int .i64 n) ∧ w'.cell? ⟨w.heap.size, 1, none⟩ = some (.slice (some ⟨b, o, none⟩) es.length cap))
      (first
          | (go_keep; done)
          | (go_split_ands
             (try dsimp only); (repeat' apply And.intro) <;> (refine (hb3.cell (p := ⟨_, _, none⟩) ?_).trans ?_ <;> first | assumption | (simp; omega)))
          | (go_split_ands
             (try dsimp only); (repeat' apply And.intro) <;> (refine (hb4.cell (p := ⟨_, _, none⟩) ?_).trans ?_ <;> first | assumption | (simp; omega)))
          | (go_split_ands; (try dsimp only); (repeat' apply And.intro) <;> (refine (cell_put2 ?_ _ _).trans ?_ <;> first | assumption | omega | (simp; done))))
      (((try rw [if_pos (by rfl)]); refine wp_extendE _ _ (by rfl) w1.heap.size (.slice ka k kc) (es.take k) (es.drop k1) HKO.out (if cap = k1 then ⟨b, o, none⟩ else ⟨b, o + k1 * 2, none⟩) (cap - k1) (es.length - k1) (by rw [List.length_drop]) (edges_cut (HED.out _ HB3.out.low.drew) (by omega)) (by simp; omega) (by rw [List.length_take, List.length_drop]; omega) (by rfl) (by show Value.slice (@ite _ _ _ _ _) _ _ = Value.slice _ _ _; split <;> rfl) ?_; intro v w4 hown hb4'; have hb4 : Below w1.heap.size w3 w4 := (Below.refl w1.heap.size w3).drew.trans hb4'; rw [HRK.out] at hown; obtain ⟨va, vc, rfl, -, -, -, -⟩ := hown.form; have HB4 := Nu.hid (HB3.out.below hb4 hs1); obtain ⟨r0, r1⟩ := HB4.out.rcells; have f0 := HB4.out.free 0; have f1 := HB4.out.free 1))
    have HOWN : Hid (OwnE w4 w.heap.size (.slice va R.length vc) R) := hown.lower (by omega)
    have HFAR := Nu.hid (hown.far (b := w.heap.size + 1) (by omega))
    clear hown hb4 hb4'
    go_wp2
    all_goals
      obtain ⟨hb, s0, s1⟩ := HB4.out.store (.int .i64 n) (.slice va R.length vc)
      refine bodyPost_ret (v := .tuple #[.agg #[.int .i64 n, .slice va R.length vc], .int .i64 0]) (by simp [results, Try.results12, go_sem, s0, s1]) rfl ?_
      exact ⟨_, rfl, own_put2 HOWN.out HFAR.out _ _, hb⟩


end Go.Proofs.Ytdkckdbpbdhoaaa
