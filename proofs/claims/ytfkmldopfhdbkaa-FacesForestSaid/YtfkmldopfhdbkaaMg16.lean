import Derived.Test.YtfkmldopfhdbkaaMg15
import Derived.Test.YtfkmldopfhdbkaaMg07
import Derived.Deep.QuietTactic
import Derived.BigQuiet
import Derived.Test.YtfkmldopfhdbkaaMg08
import Derived.Sort.Grow
import Derived.Deep.RegionHeld3
/-
  Faces, the program: Genus, Flat.
-/
namespace Go.Proofs.Ytfkmldopfhdbkaa
open Go.RowKit Go.Maps

namespace Fa
/-- The genus, by the whole's numbers. -/
def gz (N : Nat) (es : List (Int × Int)) (ls : List (List Int)) : Int := (2 * (Co.cnt N (cp N es) : Int) - (lonely N es : Int) - (N : Int) + (es.length : Int) - ((all es ls).length : Int)).tdiv 2

/-- One of those that are summed is struck out. -/
theorem sumZ_strike {p : Nat → Bool} {g : Nat → Int} {j : Nat} (hp : p j = true) : ∀ c, j < c → sumZ (fun i => if p i = true then g i else 0) c = sumZ (fun i => if (p i && !decide (i = j)) = true then g i else 0) c + g j
  | 0, h => by omega
  | c + 1, h => by
    show sumZ (fun i => if p i = true then g i else 0) c + (if p c = true then g c else 0) = sumZ (fun i => if (p i && !decide (i = j)) = true then g i else 0) c + (if (p c && !decide (c = j)) = true then g c else 0) + g j
    by_cases e : c = j
    · subst e
      have : sumZ (fun i => if p i = true then g i else 0) c = sumZ (fun i => if (p i && !decide (i = c)) = true then g i else 0) c := sumZ_congr c fun i hi => by
        have : ¬ i = c := by omega
        simp [this]
      rw [this]
      simp [hp]
    · rw [sumZ_strike hp c (by omega)]
      have : (p c && !decide (c = j)) = p c := by simp [e]
      rw [this]
      omega

theorem gen_small {a b c : Nat} (ha : a ≤ 8388608) (hb : b ≤ 8388608) (hc : c ≤ 8388608) : gen a b c ≤ 16777216 ∧ -16777216 ≤ gen a b c := by
  unfold gen
  split
  · omega
  · obtain ⟨t, ht⟩ : ∃ t, t = (2 : Int) - (a : Int) + (b : Int) - (c : Int) := ⟨_, rfl⟩
    rw [← ht]
    have h2 : -25165830 ≤ t ∧ t ≤ 25165830 := by omega
    rcases Int.le_total 0 t with h0 | h0
    · rw [Int.tdiv_eq_ediv_of_nonneg h0]
      omega
    · have h3 : (-t).tdiv 2 = (-t) / 2 := Int.tdiv_eq_ediv_of_nonneg (by omega)
      have h4 := Int.neg_tdiv t 2
      omega

theorem genus_eq {N : Nat} {es : List (Int × Int)} {ls : List (List Int)} (h : Ro.Rot N es ls) :
    sumZ (fun j => gen (cV N es j N) (cE N es j es.length) (zF N es (facesTo (ph es ls) (2 * es.length) (2 * es.length)) j (facesTo (ph es ls) (2 * es.length) (2 * es.length)).length)) (Co.cnt N (cp N es)) = gz N es ls ∧
    ∃ g : Nat, gz N es ls = (g : Int) ∧ (all es ls).length + lonely N es + N + 2 * g = 2 * Co.cnt N (cp N es) + es.length ∧ g + N ≤ es.length + Co.cnt N (cp N es) := by
  obtain ⟨m, hm⟩ := orb_ex (ph_per h)
  obtain ⟨g, hg, he, hl⟩ := genus_sum h hm
  have hF : (all es ls).length = Co.cnt (2 * es.length) m := facesZ_len (ph_per h) hm
  rw [← hF] at he
  have hgz : gz N es ls = (g : Int) := by
    unfold gz
    have : (2 * (Co.cnt N (cp N es) : Int) - (lonely N es : Int) - (N : Int) + (es.length : Int) - ((all es ls).length : Int)) = 2 * (g : Int) := by omega
    rw [this]
    exact Int.mul_tdiv_cancel_left _ (by decide)
  refine ⟨?_, g, hgz, he, hl⟩
  rw [hgz, ← hg]
  exact sumZ_congr _ fun j _ => by rw [zF_all h hm j]
end Fa

theorem kJ_same (i j : Nat) : (kJ i).sameKey (kJ j) = decide (i = j) := by
  by_cases e : i = j
  · subst e
    rw [WideAt.sameKey_self (kJ_key i)]
    simp
  · rw [Maps.sameKey_ne (fun h => e (kJ_inj h))]
    simp [e]

/-- 'range p', in a region or not. -/
theorem wp_range_pm {o : Oper} {a : Act} {K : Act → World → Prop} {Q : Exit → Act → World → Prop} (m : Operand) (ho : o.op = Op.range 66 m) (U : World) (b n : Nat) (D : DataW Unit) (h : U.ownsMap Try.prog 3 cntElem b n D) (hm : a.eval m = .map (some b))
    (hK : ∀ w', w'.ranges Try.prog 3 cntElem b U.heap.size n D (Maps.has D) (Maps.size D) → U.grownBy w' none → w'.heap.size = U.heap.size + 1 → K (a.put o.dst (.pointer (some ⟨U.heap.size, 0, none⟩))) w') : o.wp Try.prog a U K Q := by
  obtain ⟨w', hrun, r1, r2, r3⟩ := h.range (t := 66) lawI Try.underlying66
  unfold Oper.wp
  simp [execOp, ho, hm, hrun, Result.andThen]
  exact hK w' r1 r2 r3

/-- The step. -/
theorem wpList_next_pm {ops : Array Oper} {rest : List Oper} {o : Oper} {a : Act} {Q : Exit → Act → World → Prop} (hg : o.guard = none) (it : Operand) (hop : o.op = Op.next it false) (w : World) (b r n : Nat) (D : DataW Unit) (left : Lit → Bool) (cnt : Nat)
    (hit : a.eval it = .pointer (some ⟨r, 0, none⟩)) (h : w.ranges Try.prog 3 cntElem b r n D left cnt) (hl : ∀ kl, left kl = true → ∃ j, kl = kJ j)
    (hDone : cnt = 0 → (∀ kl, left kl = false) → wpList Try.prog ops Q rest (a.put o.dst (.tuple #[.bool false])) w)
    (hMore : ∀ (j : Nat) (x y z : Int) (w' : World) (cnt' : Nat), left (kJ j) = true → (∀ zd, D.atKey (kJ j) zd = .agg [.lit (.int .i64 x), .lit (.int .i64 y), .lit (.int .i64 z)]) → w'.ranges Try.prog 3 cntElem b r n D (fun z => left z && !z.sameKey (kJ j)) cnt' → cnt' < cnt →
      w.grownBy w' (some r) → w'.heap.size = w.heap.size → (Instr.entry (.pointer (some ⟨r, 0, none⟩))).run Try.prog w' = .ok (.tuple #[.int .i64 (j : Int), .agg #[.int .i64 x, .int .i64 y, .int .i64 z]]) w' → wpList Try.prog ops Q rest (a.put o.dst (.tuple #[.bool true, .int .i64 (j : Int), .agg #[.int .i64 x, .int .i64 y, .int .i64 z]])) w') :
    wpList Try.prog ops Q (o :: rest) a w :=
  wpList_next_ranges w hg it hop 3 lawI cntElem (Value.int .i64) (fun t : Int × Int × Int => .agg #[.int .i64 t.1, .int .i64 t.2.1, .int .i64 t.2.2]) (fun key kl hkey => by obtain ⟨x, rfl, _⟩ := Maps.keyOf_int_inv Try.underlying3 hkey; exact ⟨x, rfl⟩)
    (fun v y hv => by obtain ⟨x, y, z, rfl, _⟩ := cntElem_inv hv; exact ⟨(x, y, z), rfl⟩) b r n D left cnt hit h hDone (fun x t kl y w' cnt' hkey hlk hv hat hrg hlt hgr hsz hen => by
      obtain ⟨x', ex, rfl, -⟩ := Maps.keyOf_int_inv Try.underlying3 hkey
      cases ex
      obtain ⟨j, hj⟩ := hl _ hlk
      have hxj : x = (j : Int) := by
        unfold kJ at hj
        injection hj
      subst hxj
      obtain ⟨x1, y1, z1, e1, rfl⟩ := cntElem_inv hv
      obtain ⟨t1, t2, t3⟩ := t
      simp only [Value.agg.injEq, Array.mk.injEq, List.cons.injEq, Value.int.injEq, true_and, and_true] at e1
      obtain ⟨rfl, rfl, rfl⟩ := e1
      exact hMore j _ _ _ w' cnt' hlk hat hrg hlt hgr hsz hen)

/-- What Genus answers. -/
def GenQ (c g : Int) (w : World) (e : Ending) (w' : World) : Prop := e = .returned (.tuple #[.int .i64 (if c = 0 then g else 0), .int .i64 c]) ∧ Below w.heap.size w w'

set_option maxRecDepth 100000 in
set_option maxHeartbeats 8000000 in
theorem fgenus_any (n : Int) (ao : Option Addr) (ca : Nat) (es : List (Int × Int)) (xo : Option Addr) (xc : Nat) (ls : List (List Int)) (w : World) (he : EdgesAt w ao es) (hl : es.length ≤ 4611686018427387904) (hx : RwsAt w xo ls) :
    Calls Try.prog 18 #[graphVal n ao es.length ca, .slice xo ls.length xc] w (GenQ (Ro.check n es ls).2 (Fa.gz n.toNat es ls) w) := by
  have hb0 : Below w.heap.size w (w.alloc (.cells #[.int .i64 n, .slice ao es.length ca] 24)) := (Below.refl _ _).alloc (Nat.le_refl _) _
  have HN := Nu.hid (stepsOf_any n ao ca es xo xc ls _ (he.later hb0) hl (hx.later hb0))
  have HBX := Nu.hid (heap_alloc_new w (.cells #[.int .i64 n, .slice ao es.length ca] 24))
  have HB0 := Nu.hid hb0
  have HE := Nu.hid he
  unfold graphVal at HN ⊢
  obtain ⟨C, hC⟩ : ∃ C, C = (Ro.check n es ls).2 := ⟨_, rfl⟩
  have HC := Nu.hid hC
  rw [← hC]
  clear he hx hb0 hC
  go_enter Try.func18, Try.ntmps18
  go_wp2_with (go_at_call 31; refine HN.out.mono ?_; intro e w1 hp; obtain ⟨hb1, ⟨hc, rfl⟩ | ⟨hc, g, rfl, hg, hi⟩⟩ := hp <;> refine Hid.out ?_)
  all_goals refine Nu.hid ?_
  · have HB := Nu.hid (HB0.out.trans (hb1.mono HB0.out.size))
    rw [← HC.out] at hc ⊢
    have hcb : (C != 0) = true := by simpa using hc
    have HC1 := Nu.hid hc
    clear hc hb1
    go_wp2
    go_ret2
    exact ⟨by rw [if_neg HC1.out]; rfl, HB.out⟩
  · have hr := Ro.check_iff.1 hc
    have hv := Si.valid_iff.1 hr.val
    obtain ⟨N, rfl⟩ : ∃ N : Nat, n = (N : Int) := ⟨n.toNat, by have := hv.lo; omega⟩
    have hst := steps_of hc hi
    have hfew := hv.few
    have hhi := hv.hi
    obtain ⟨m, ho⟩ := Fa.orb_ex hst.per
    have HB := Nu.hid (HB0.out.trans (hb1.mono HB0.out.size))
    have hs1 := HB.out.size
    obtain ⟨fs, hfs⟩ : ∃ fs, fs = Fa.facesTo (Fa.ph es ls) (2 * es.length) (2 * es.length) := ⟨_, rfl⟩
    have hfl : fs.length ≤ 8388608 := by
      rw [hfs, Fa.facesTo_len hst.per ho (Nat.le_refl _)]
      have := Co.cntTo_le (Co.fix m) (2 * es.length)
      omega
    have HNE : Hid (∀ l ∈ fs, l ≠ [] ∧ Fa.hd l < 2 * es.length) := fun l hm => by
      obtain ⟨j, hj⟩ := List.getElem?_of_mem hm
      rw [hfs] at hj
      obtain ⟨r, hr, -, rfl, -⟩ := Fa.face_at hst.per ho hj
      exact ⟨by unfold Fa.face; simp, hr⟩
    have hbx1 : w1.heap[w.heap.size]? = some (.cells #[.int .i64 (N : Int), .slice ao es.length ca] 24 (0, 0)) := (hb1.block _ (lt_of_block HBX.out)).trans HBX.out
    have hbd : Below w1.heap.size w1 w1.drew := (Below.refl _ _).drew
    have HF : Hid (Calls Try.prog 32 #[.slice (some ⟨g, 0, none⟩) (2 * es.length) (2 * es.length)] w1.drew fun e w' => ∃ fo fc vs, e = .returned (.slice fo fs.length fc) ∧ RowsZ w' w1.heap.size (.slice fo fs.length fc) vs (fs.map Fa.zl) ∧ Below w1.heap.size w1 w') := by
      refine (faces_any g (2 * es.length) (Fa.ph es ls) w1.drew (hst.later hbd)).mono ?_
      rintro e w' ⟨v, vs, rfl, hr, hb⟩
      have hfz : Fa.facesZ (Fa.ph es ls) (2 * es.length) = fs.map Fa.zl := by rw [hfs]; rfl
      rw [hfz] at hr
      obtain ⟨fo, fc, rfl⟩ := row_shape hr
      rw [List.length_map] at hr ⊢
      exact ⟨fo, fc, vs, rfl, hr, hbd.trans hb⟩
    have HP : Hid (∀ (U : World) (fo : Option Addr) (fc : Nat) (vs : List Value), Below w1.heap.size w1 U → RowsZ U w1.heap.size (.slice fo fs.length fc) vs (fs.map Fa.zl) → Calls Try.prog 34 #[.agg #[.int .i64 (N : Int), .slice ao es.length ca], .slice fo fs.length fc] U (PartsP N es fs U)) := fun U fo fc vs hU hR => by
      obtain ⟨xo', xc', e, hrw, -⟩ := hR.rws (fun l hl => by
        obtain ⟨l0, h0, rfl⟩ := List.mem_map.1 hl
        rw [Fa.zl_len]
        obtain ⟨j, hj⟩ := List.getElem?_of_mem h0
        rw [hfs] at hj
        obtain ⟨r, hr, -, rfl, -⟩ := Fa.face_at hst.per ho hj
        obtain ⟨p, hp⟩ := Fa.len_ex hst.per hr
        rw [Fa.face_way hp, Fa.way_len]
        have := hp.le
        omega)
      rw [List.length_map] at e
      cases e
      exact partsOf_any N ao ca es fo fc fs.length fs U (HE.out.later (HB.out.trans (hU.mono hs1))) hv hrw rfl hfl HNE.out
    have HS : Hid (∀ U, Below w1.heap.size w1 U → U.cell? ⟨w.heap.size, 0, none⟩ = some (.int .i64 (N : Int)) ∧ U.cell? ⟨w.heap.size, 1, none⟩ = some (.slice ao es.length ca)) := fun U hU => by
      obtain ⟨x0, x1, -⟩ := pair_cells ((hU.block _ (lt_of_block hbx1)).trans hbx1)
      exact ⟨x0, x1⟩
    have hGE := (Fa.genus_eq hr).1
    rw [← hfs] at hGE
    have HGE := Nu.hid hGE
    rw [← HC.out] at hc
    have HC1 := Nu.hid hc
    have t0 : ((0 : Int) != 0) = false := rfl
    obtain ⟨M, hM⟩ : ∃ M, M = 2 * es.length := ⟨_, rfl⟩
    rw [← hM] at HF ⊢
    have hSd := HS.out w1.drew hbd
    have hS1 := HS.out w1 (Below.refl _ _)
    have htn : (N : Int).toNat = N := by omega
    have HTN := Nu.hid htn
    have HFL := Nu.hid hfl
    obtain ⟨K, hK⟩ : ∃ K, K = fs.length := ⟨_, rfl⟩
    rw [← hK] at HF HP
    have HKE := Nu.hid hK
    clear hc hb1 hg hi hst ho hfs hbx1 hbd hr hv hGE hM htn hfl hK
    go_wp2_with fail
    go_region_held3 (fun U => U.cell? ⟨w.heap.size, 0, none⟩ = some (.int .i64 (N : Int)) ∧ U.cell? ⟨w.heap.size, 1, none⟩ = some (.slice ao es.length ca))
      (first | exact hSd | exact hS1 | exact hS2 | exact hS3 | exact hS4)
      (first
        | (go_at_call 32; refine HF.out.mono ?_; rintro e w2 ⟨fo, fc, vs, rfl, hR2, hb2⟩; have hS2 := HS.out w2 hb2)
        | (go_at_call 34; refine (HP.out _ _ _ _ hb2 hR2).mono ?_; rintro e w3 ⟨b, nn, rfl, hbl, hnn, hPM, hb3⟩; have hb13 := hb2.trans (hb3.mono hb2.size); have hS3 := HS.out w3 hb13; obtain ⟨D, hD, hat, hhas⟩ := hPM; obtain ⟨w4, hrun4, hrg, hg4, hs4⟩ := hD.range (t := 66) lawI Try.underlying66; have hb14 := hb13.grown hg4 hb13.size (fun j hj => by cases hj); have hS4 := HS.out w4 hb14))
    have hs14 := hb14.size
    have hs13 := hb13.size
    have hs3 := hb3.size
    have hs2 := hb2.size
    obtain ⟨c, hcc⟩ : ∃ c, c = Co.cnt N (Fa.cp N es) := ⟨_, rfl⟩
    obtain ⟨G, hG⟩ : ∃ G : Nat → Int, G = fun j => Fa.gen (Fa.cV N es j N) (Fa.cE N es j es.length) (Fa.zF N es fs j fs.length) := ⟨_, rfl⟩
    have HCC := Nu.hid hcc
    have HG := Nu.hid hG
    have HAT := Nu.hid hat
    have HB14 := Nu.hid hb14
    have hsz0 := hD.size_le
    have HL0 : Hid (∀ kl, Maps.has D kl = true → ∃ j, kl = kJ j ∧ j < c) := fun kl h => by
      obtain ⟨j, h1, h2⟩ := (hhas kl).1 h
      exact ⟨j, h1, by rw [hcc]; exact of_decide_eq_true h2⟩
    have HSUM : Hid ((0 : Int) + Fa.sumZ (fun j => if Maps.has D (kJ j) = true then G j else 0) c = Fa.gz N es ls) := by
      show (0 : Int) + Fa.sumZ (fun j => if Maps.has D (kJ j) = true then G j else 0) c = Fa.gz N es ls
      rw [← HGE.out, Int.zero_add, ← hcc, hG]
      refine Fa.sumZ_congr c fun j hj => ?_
      rw [if_pos ((hhas (kJ j)).2 ⟨j, rfl, by rw [decide_eq_true_iff, ← hcc]; exact hj⟩)]
    have HRG := Nu.hid hrg
    have HGB : Hid (∀ j, G j ≤ 16777216 ∧ -16777216 ≤ G j ∧ Fa.cV N es j N ≤ 8388608 ∧ Fa.cE N es j es.length ≤ 8388608 ∧ Fa.zF N es fs j fs.length ≤ 8388608) := fun j => by
      have h1 : Fa.cV N es j N ≤ N := Co.cntTo_le _ _
      have h2 : Fa.cE N es j es.length ≤ es.length := Co.cntTo_le _ _
      have h3 : Fa.zF N es fs j fs.length ≤ fs.length := Co.cntTo_le _ _
      have h4 := HFL.out
      rw [hG]
      have h5 := Fa.gen_small (a := Fa.cV N es j N) (b := Fa.cE N es j es.length) (c := Fa.zF N es fs j fs.length) (by omega) (by omega) (by omega)
      exact ⟨h5.1, h5.2, by omega, by omega, by omega⟩
    have HBZ : Hid (Below w.heap.size w w1) := HB.out
    clear hrun4 hrg hg4 hs4 hb14 hS4 hS3 hS2 hSd hS1 hD hat hhas hbl hb3 hb13 hb2 hR2 hcc hG HP HF HS
    go_wp2
    go_loopw [8] (fun c8 wr => ∃ (s : Int) (left : Lit → Bool) (cnt : Nat), c8 = .int .i64 s ∧ wr.ranges Try.prog 3 cntElem b w3.heap.size nn D left cnt ∧ (∀ kl, left kl = true → ∃ j, kl = kJ j ∧ j < c) ∧ s + Fa.sumZ (fun j => if left (kJ j) = true then G j else 0) c = Fa.gz N es ls ∧ cnt ≤ nn ∧ s ≤ ((nn : Int) - (cnt : Int)) * 16777216 ∧ -(((nn : Int) - (cnt : Int)) * 16777216) ≤ s ∧ Below w1.heap.size w1 wr) (fun _ wr => wr.rangeLeft b w3.heap.size)
    case atStart => exact ⟨0, _, _, rfl, HRG.out, HL0.out, HSUM.out, hsz0, by omega, by omega, HB14.out⟩
    case round =>
      obtain ⟨s, left, cnt, rfl, hrg, hlf, hsum, hcn, hb1', hb2', hb⟩ := hrel
      obtain ⟨W0, rfl⟩ : ∃ W0, W0 = wr := ⟨_, rfl⟩
      have HR0 := Nu.hid hrg
      have HLF := Nu.hid hlf
      have HSU := Nu.hid hsum
      have HBB := Nu.hid hb
      have HB1 := Nu.hid hb1'
      have HB2 := Nu.hid hb2'
      have hbs := hb.size
      clear hrg hlf hsum hb hb1' hb2'
      go_wp2_with (at_next; refine wpList_next_pm rfl _ rfl W0 b w3.heap.size nn D left cnt rfl HR0.out (fun kl h => by obtain ⟨j, h1, -⟩ := HLF.out kl h; exact ⟨j, h1⟩) ?_ ?_ <;> refine Hid.out ?_)
      all_goals refine Nu.hid ?_
      · intro hc0 hl0
        have HRES : Hid (s = Fa.gz N es ls) := by
          have := HSU.out
          rw [Fa.sumZ_zero c (fun i _ => by rw [hl0]; simp)] at this
          show s = Fa.gz N es ls
          omega
        clear hc0 hl0
        go_wp2
        go_ret2
        exact ⟨by rw [HC1.out, if_pos rfl, HTN.out, ← HRES.out]; rfl, HBZ.out.trans (HBB.out.mono hs1)⟩
      · intro j x y z w5 cnt' hlj hat hrg5 hlt5 hg5 hs5 hen5
        obtain ⟨j', e1, hjc⟩ := HLF.out _ hlj
        have e2 := kJ_inj e1
        subst e2
        have h0 := HAT.out j
        rw [hat] at h0
        unfold cD at h0
        simp only [DataW.agg.injEq, List.cons.injEq, DataW.lit.injEq, Lit.int.injEq, true_and, and_true] at h0
        obtain ⟨rfl, rfl, rfl⟩ := h0
        obtain ⟨g1, g2, g3, g4, g5⟩ := HGB.out j
        have hrne := hrg5.ne
        have hb5 : Below w1.heap.size w1 w5 := HBB.out.grown hg5 hbs (fun k hk => by cases hk; omega)
        have hGj : G j = Fa.gen (Fa.cV N es j N) (Fa.cE N es j es.length) (Fa.zF N es fs j fs.length) := by rw [HG.out]
        have HGN : Hid (∀ U, Calls Try.prog 35 #[.agg #[.int .i64 (Fa.cV N es j N : Int), .int .i64 (Fa.cE N es j es.length : Int), .int .i64 (Fa.zF N es fs j fs.length : Int)]] U fun e w' => e = .returned (.int .i64 (G j)) ∧ Below U.heap.size U w') := fun U => by
          rw [hGj]
          exact genus1_any _ _ _ U g3 g4 g5
        have HSU5 : Hid ((s + G j) + Fa.sumZ (fun i => if (left (kJ i) && !(kJ i).sameKey (kJ j)) = true then G i else 0) c = Fa.gz N es ls) := by
          have h1 := HSU.out
          rw [Fa.sumZ_strike (p := fun i => left (kJ i)) hlj c hjc] at h1
          have h2 : Fa.sumZ (fun i => if (left (kJ i) && !(kJ i).sameKey (kJ j)) = true then G i else 0) c = Fa.sumZ (fun i => if (left (kJ i) && !decide (i = j)) = true then G i else 0) c := Fa.sumZ_congr c fun i _ => by rw [kJ_same]
          show (s + G j) + _ = _
          rw [h2]
          omega
        have b1 := HB1.out
        have b2 := HB2.out
        have b3 : s + G j ≤ ((nn : Int) - (cnt' : Int)) * 16777216 := by omega
        have b4 : -(((nn : Int) - (cnt' : Int)) * 16777216) ≤ s + G j := by omega
        have hws : IntKind.i64.wrap (s + G j) = s + G j := by rw [IntKind.wrap_i64]; omega
        have HRG5 := Nu.hid hrg5
        have HB5 := Nu.hid hb5
        have HBD : Hid (s + G j ≤ ((nn : Int) - (cnt' : Int)) * 16777216 ∧ -(((nn : Int) - (cnt' : Int)) * 16777216) ≤ s + G j) := ⟨b3, b4⟩
        have HME : Hid (w5.rangeLeft b w3.heap.size < W0.rangeLeft b w3.heap.size) := by
          show _ < _
          rw [hrg5.left_eq, HR0.out.left_eq]
          exact hlt5
        have hcn' : cnt' ≤ nn := by omega
        obtain ⟨v1, hv1⟩ : ∃ v, v = Fa.cV N es j N := ⟨_, rfl⟩
        obtain ⟨v2, hv2⟩ : ∃ v, v = Fa.cE N es j es.length := ⟨_, rfl⟩
        obtain ⟨v3, hv3⟩ : ∃ v, v = Fa.zF N es fs j fs.length := ⟨_, rfl⟩
        rw [← hv1, ← hv2, ← hv3] at hen5 HGN ⊢
        obtain ⟨gj, hgj⟩ : ∃ gj, gj = G j := ⟨_, rfl⟩
        rw [← hgj] at HGN HSU5 HBD hws
        clear hlj hat hrg5 hlt5 hg5 hs5 e1 hjc g1 g2 g3 g4 g5 hrne hb5 hGj b1 b2 b3 b4 hv1 hv2 hv3 hgj
        go_wp2_with (go_at_call 35; refine (HGN.out _).mono ?_; rintro e w6 ⟨rfl, hb6⟩; refine Hid.out ?_)
        refine Nu.hid ?_
        have hb56 : Below w5.heap.size w5 w6 := ((Below.refl _ _).alloc (Nat.le_refl _) _).trans (hb6.mono (by simp))
        have HB6 := Nu.hid (HB5.out.trans (hb56.mono HB5.out.size))
        have HR6 : Hid (w6.ranges Try.prog 3 cntElem b w3.heap.size nn D (fun z => left z && !z.sameKey (kJ j)) cnt') := HRG5.out.kept (row := none) ⟨hb56.os, hb56.tape, hb56.output, hb56.size, fun i hi _ => hb56.block i hi⟩ (by simp) (by simp)
        have HME6 : Hid (w6.rangeLeft b w3.heap.size < W0.rangeLeft b w3.heap.size) := by
          show _ < _
          rw [HR6.out.left_eq, ← HRG5.out.left_eq]
          exact HME.out
        have HL6 : Hid (∀ kl, (left kl && !kl.sameKey (kJ j)) = true → ∃ j, kl = kJ j ∧ j < c) := fun kl h => HLF.out kl (by simp only [Bool.and_eq_true] at h; exact h.1)
        clear hb6 hb56 hen5
        go_wp2
        go_roundw
        case rel => exact ⟨_, _, _, rfl, HR6.out, HL6.out, HSU5.out, hcn', HBD.out.1, HBD.out.2, HB6.out⟩
        case measure => exact HME6.out

set_option maxRecDepth 100000 in
set_option maxHeartbeats 4000000 in
theorem fflat_any (n : Int) (ao : Option Addr) (ca : Nat) (es : List (Int × Int)) (xo : Option Addr) (xc : Nat) (ls : List (List Int)) (w : World) (he : EdgesAt w ao es) (hl : es.length ≤ 4611686018427387904) (hx : RwsAt w xo ls) :
    Calls Try.prog 20 #[graphVal n ao es.length ca, .slice xo ls.length xc] w fun e w' => e = .returned (.bool (decide ((Ro.check n es ls).2 = 0 ∧ Fa.gz n.toNat es ls = 0))) ∧ Below w.heap.size w w' := by
  have hb0 : Below w.heap.size w (w.alloc (.cells #[.int .i64 n, .slice ao es.length ca] 24)) := (Below.refl _ _).alloc (Nat.le_refl _) _
  have HN := Nu.hid (fgenus_any n ao ca es xo xc ls _ (he.later hb0) hl (hx.later hb0))
  have HB0 := Nu.hid hb0
  unfold graphVal at HN ⊢
  obtain ⟨C, hC⟩ : ∃ C, C = (Ro.check n es ls).2 := ⟨_, rfl⟩
  obtain ⟨g, hg⟩ : ∃ g, g = Fa.gz n.toNat es ls := ⟨_, rfl⟩
  rw [← hC, ← hg]
  rw [← hC, ← hg] at HN
  obtain ⟨T, hT⟩ : ∃ T, T = decide (C = 0 ∧ g = 0) := ⟨_, rfl⟩
  rw [← hT]
  by_cases h0 : C = 0
  · subst h0
    have t0 : ((0 : Int) == 0) = true := rfl
    by_cases h1 : g = 0
    · have t1 : (g == 0) = true := by simpa using h1
      have hD : T = true := by rw [hT]; simp [h1]
      subst hD
      have HGN : Hid (∀ (W W' : World) (e : Ending), GenQ 0 g W e W' → e = .returned (.tuple #[.int .i64 g, .int .i64 0]) ∧ Below W.heap.size W W') := fun W W' e h => ⟨h.1, h.2⟩
      clear he hx hb0 hC hg h1 hT
      go_enter Try.func20, Try.ntmps20
      go_wp2_with (go_at_call 18; refine HN.out.mono ?_; intro e w1 hp; obtain ⟨rfl, hb1⟩ := HGN.out _ _ _ hp; refine Hid.out ?_)
      refine Nu.hid ?_
      have HB := Nu.hid (HB0.out.trans (hb1.mono HB0.out.size))
      clear hb1 hp
      go_wp2
      go_ret
      exact ⟨rfl, HB.out⟩
    · have t1 : (g == 0) = false := by simpa using h1
      have hD : T = false := by rw [hT]; simp [h1]
      subst hD
      have HGN : Hid (∀ (W W' : World) (e : Ending), GenQ 0 g W e W' → e = .returned (.tuple #[.int .i64 g, .int .i64 0]) ∧ Below W.heap.size W W') := fun W W' e h => ⟨h.1, h.2⟩
      clear he hx hb0 hC hg h1 hT
      go_enter Try.func20, Try.ntmps20
      go_wp2_with (go_at_call 18; refine HN.out.mono ?_; intro e w1 hp; obtain ⟨rfl, hb1⟩ := HGN.out _ _ _ hp; refine Hid.out ?_)
      refine Nu.hid ?_
      have HB := Nu.hid (HB0.out.trans (hb1.mono HB0.out.size))
      clear hb1 hp
      go_wp2
      go_ret
      exact ⟨rfl, HB.out⟩
  · have t0 : (C == 0) = false := by simpa using h0
    have hD : T = false := by rw [hT]; simp [h0]
    subst hD
    have HGN : Hid (∀ (W W' : World) (e : Ending), GenQ C g W e W' → e = .returned (.tuple #[.int .i64 0, .int .i64 C]) ∧ Below W.heap.size W W') := fun W W' e h => ⟨by rw [h.1, if_neg h0], h.2⟩
    clear he hx hb0 hC hg h0 hT
    go_enter Try.func20, Try.ntmps20
    go_wp2_with (go_at_call 18; refine HN.out.mono ?_; intro e w1 hp; obtain ⟨rfl, hb1⟩ := HGN.out _ _ _ hp; refine Hid.out ?_)
    refine Nu.hid ?_
    have HB := Nu.hid (HB0.out.trans (hb1.mono HB0.out.size))
    clear hb1 hp
    go_wp2
    go_ret
    exact ⟨rfl, HB.out⟩

end Go.Proofs.Ytfkmldopfhdbkaa

/-
  The document's own SameInts.
-/
namespace Go.Proofs.Ytfkmldopfhdbkaa
open Go.RowKit

set_option maxRecDepth 100000 in
set_option maxHeartbeats 4000000 in
theorem sameints_any (ao bo : Option Addr) (ca cb n m : Nat) (l l' : List Int) (w : World) (hn : l.length = n) (hm : l'.length = m) (ha : IntsAt w ao l) (hb : IntsAt w bo l') (hl : n ≤ 4611686018427387904) :
    Calls Try.prog 17 #[.slice ao n ca, .slice bo m cb] w fun e w' => e = .returned (.bool (decide (l = l'))) ∧ Below w.heap.size w w' := by
  have HA := Nu.hid ha
  have HB := Nu.hid hb
  have HN := Nu.hid hn
  have HM := Nu.hid hm
  clear ha hb
  by_cases hll : n = m
  · have j1 : ((n : Int) != (m : Int)) = false := by simp [hll]
    have HLL := Nu.hid hll
    have hnm : (n : Int) = (m : Int) := by omega
    clear hll hn hm
    go_enter Try.func17, Try.ntmps17
    have HNM := Nu.hid hnm
    clear hnm
    go_wp2
    go_loopw [5] (fun c wr => ∃ k : Nat, k ≤ n ∧ c = .int .i64 k ∧ (∀ j, j < k → l[j]? = l'[j]?) ∧ Below w.heap.size w wr) (fun c _ => n - (intOf c).toNat)
    case atStart => exact ⟨0, Nat.zero_le _, rfl, fun j h => by omega, Below.refl _ _⟩
    case round =>
      obtain ⟨k, hk, rfl, hsame, hbw⟩ := hrel
      have HSAME := Nu.hid hsame
      have HBW := Nu.hid hbw
      clear hsame
      by_cases hlt : k < n
      · have hlti : (k : Int) < (n : Int) := by omega
        have hk0 : (0 : Int) ≤ (k : Int) := by omega
        have hlm : (k : Int) < (m : Int) := by have := HNM.out; omega
        obtain ⟨x, hx⟩ : ∃ x, l[k]? = some x := ⟨_, List.getElem?_eq_getElem (by have := HN.out; omega)⟩
        obtain ⟨y, hy⟩ : ∃ y, l'[k]? = some y := ⟨_, List.getElem?_eq_getElem (by have := HM.out; omega)⟩
        obtain ⟨b, o, rfl, c0⟩ := (HA.out.later hbw) k x hx
        obtain ⟨b', o', rfl, d0⟩ := (HB.out.later hbw) k y hy
        have hbl : b < wr.heap.size := block_lt_of_cell c0
        have hbl' : b' < wr.heap.size := block_lt_of_cell d0
        have HX := Nu.hid hx
        have HY := Nu.hid hy
        clear hx hy hbw
        by_cases e1 : x = y
        · have t1 : (x != y) = false := by simp [e1]
          have HXY := Nu.hid e1
          clear e1
          go_wp2_with fail
          go_quiet (fail)
          go_wp2
          go_roundw
          case rel =>
            refine ⟨k + 1, by omega, by go_num, fun j hj => ?_, below_drewN HBW.out _⟩
            by_cases hjk : j = k
            · subst hjk; rw [HX.out, HY.out, HXY.out]
            · exact HSAME.out j (by omega)
          case measure => simp [intOf]; omega
        · have t1 : (x != y) = true := by simp [e1]
          have hv : decide (l = l') = false := by
            simp only [decide_eq_false_iff_not]
            intro h
            rw [h, HY.out] at HX
            cases HX.out
            exact e1 rfl
          have HV := Nu.hid hv
          clear hv
          go_wp2_with fail
          go_quiet (fail)
          go_wp2
          go_ret
          exact ⟨by rw [HV.out]; rfl, below_drewN HBW.out _⟩
      · have hd : ¬ ((k : Int) < (n : Int)) := by omega
        have hv : decide (l = l') = true := by
          simp only [decide_eq_true_eq]
          refine List.ext_getElem? fun j => ?_
          by_cases hj : j < k
          · exact HSAME.out j hj
          · rw [List.getElem?_eq_none (by have := HN.out; omega), List.getElem?_eq_none (by have := HM.out; have := HLL.out; omega)]
        have HV := Nu.hid hv
        clear hv hbw
        go_wp2
        go_ret
        exact ⟨by rw [HV.out]; rfl, HBW.out⟩
  · have j1 : ((n : Int) != (m : Int)) = true := by simp; omega
    have hv : decide (l = l') = false := by
      simp only [decide_eq_false_iff_not]
      intro h
      rw [h] at hn
      omega
    rw [hv]
    clear hll hn hm hv
    go_enter Try.func17, Try.ntmps17
    go_wp2
    go_ret
    exact ⟨rfl, Below.refl _ _⟩

end Go.Proofs.Ytfkmldopfhdbkaa

/-
  Lists of lists that are alike.
-/
namespace Go.Proofs.Ytfkmldopfhdbkaa
open Go.RowKit Go.Sort

set_option maxRecDepth 100000 in
set_option maxHeartbeats 8000000 in
/-- Lists of lists that are alike are the same. -/
theorem samelists3_any (B B' : Nat) (v v' : Value) (vs vs' : List Value) (ls : List (List Int)) (w : World) (h : RowsZ w B v vs ls) (h' : RowsZ w B' v' vs' ls) (hl : ls.length ≤ 4611686018427387904) (hll : ∀ l ∈ ls, l.length ≤ 4611686018427387904) :
    Calls Try.prog 14 #[v, v'] w fun e w' => e = .returned (.bool true) ∧ Below w.heap.size w w' := by
  obtain ⟨ao, c, rfl⟩ := row_shape h
  obtain ⟨ao', c', rfl⟩ := row_shape h'
  have H := Nu.hid h
  have H' := Nu.hid h'
  have HLL := Nu.hid hll
  have j1 : ((ls.length : Int) != (ls.length : Int)) = false := by simp
  clear h h' hll
  go_enter Try.func14, Try.ntmps14
  go_wp2
  go_loopw [5] (fun cv wr => ∃ k : Nat, k ≤ ls.length ∧ cv = .int .i64 (k : Int) ∧ Below w.heap.size w wr) (fun cv _ => ls.length - (intOf cv).toNat)
  case atStart => exact ⟨0, Nat.zero_le _, rfl, Below.refl _ _⟩
  case round =>
    obtain ⟨k, hk, rfl, hb⟩ := hrel
    have HB := Nu.hid hb
    by_cases hlt : k < ls.length
    · have hlti : (k : Int) < (ls.length : Int) := by omega
      have hk0 : (0 : Int) ≤ (k : Int) := by omega
      obtain ⟨l, hlk⟩ : ∃ l, ls[k]? = some l := ⟨_, List.getElem?_eq_getElem hlt⟩
      have h1 := H.out.later hb
      have h2 := H'.out.later hb
      obtain ⟨x, hx⟩ := h1.at' hlk
      obtain ⟨y, hy⟩ := h2.at' hlk
      obtain ⟨xo, xc, hxe, hxa, -⟩ := (h1.row k x l hx hlk).form
      obtain ⟨yo, yc, hye, hya, -⟩ := (h2.row k y l hy hlk).form
      subst hxe
      subst hye
      obtain ⟨g, gc, e1⟩ := row_form h1 (by omega)
      obtain ⟨g', gc', e2⟩ := row_form h2 (by omega)
      cases e1
      cases e2
      have ea : ∀ G : Nat, ((⟨G, 0, none⟩ : Addr).add k) = ⟨G, k, none⟩ := fun G => by
        by_cases h0 : k = 0 <;> simp [Addr.add, h0]
      have cx := World.ownsRow.cells h1.outer (g := g) rfl k _ hx
      have cy := World.ownsRow.cells h2.outer (g := g') rfl k _ hy
      rw [ea] at cx cy
      have hsz : l.length ≤ 4611686018427387904 := HLL.out l (List.mem_of_getElem? hlk)
      have hsame : ∀ W, Below wr.heap.size wr W → Calls Try.prog 17 #[.slice xo l.length xc, .slice yo l.length yc] W fun e w' => e = .returned (.bool true) ∧ Below W.heap.size W w' := fun W hbW => by
        refine (sameints_any xo yo xc yc l.length l.length l l W rfl rfl (hxa.later hbW) (hya.later hbW) hsz).mono ?_
        rintro e w' ⟨h1, h2⟩
        exact ⟨by rw [h1]; simp, h2⟩
      have HSAME := Nu.hid hsame
      obtain ⟨p1, hp1⟩ : ∃ p1, l.length = p1 := ⟨_, rfl⟩
      rw [hp1] at cx cy HSAME
      have hS : ∀ W, Below wr.heap.size wr W → (W.cell? ⟨g, k, none⟩ = some (.slice xo p1 xc) ∧ W.cell? ⟨g', k, none⟩ = some (.slice yo p1 yc) ∧ Below wr.heap.size wr W) := fun W hbW =>
        ⟨(hbW.cell (p := ⟨g, k, none⟩) (block_lt_of_cell cx)).trans cx, (hbW.cell (p := ⟨g', k, none⟩) (block_lt_of_cell cy)).trans cy, hbW⟩
      have HS := Nu.hid hS
      have hbr : Below wr.heap.size wr wr.drew := (Below.refl _ _).drew
      clear h1 h2 hx hy hxa hya hlk hb hsame hS ea hp1 hsz
      go_wp2_with fail
      go_region_held3 (fun W => W.cell? ⟨g, k, none⟩ = some (.slice xo p1 xc) ∧ W.cell? ⟨g', k, none⟩ = some (.slice yo p1 yc) ∧ Below wr.heap.size wr W)
        (exact HS.out _ (by first | assumption | exact hbr))
        ((go_at_call 17; refine (HSAME.out _ (by first | assumption | exact hbr)).mono ?_; rintro e w6 ⟨rfl, hbs⟩; have hbz : Below wr.heap.size wr w6 := Below.trans (by first | assumption | exact hbr) (hbs.mono (Below.size (by first | assumption | exact hbr)))))
      have HBZ := Nu.hid (HB.out.trans (hbz.mono HB.out.size))
      clear hbz hbs HSAME HS hbr
      go_wp2
      go_roundw
      case rel => exact ⟨k + 1, by omega, by go_num, HBZ.out⟩
      case measure => simp [intOf]; omega
    · have hd : ¬ ((k : Int) < (ls.length : Int)) := by omega
      clear hb
      go_wp2
      go_ret
      exact ⟨rfl, HB.out⟩

end Go.Proofs.Ytfkmldopfhdbkaa
