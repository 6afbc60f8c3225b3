/-
  Rising edges with more of them, as the program merges them.
-/
import Derived.Test.YtdkckdbpbdhoaaaEdM
import Derived.Test.YtdkckdbpbdhoaaaLwQ
import Derived.Test.YtdkckdbpbdhoaaaMgA
import Derived.Maps.AppendAt
namespace Go.Proofs.Ytdkckdbpbdhoaaa
open Go.RowKit Go.Sort

theorem edge_news {W : World} {y : Addr} {es : List (Int × Int)} (he : EdgesAt W (some y) es) : ∀ j u, (flatE es)[j]? = some u → W.cell? (y.add j) = some u := by
  intro j u hj
  have hjl := (List.getElem?_eq_some_iff.1 hj).1
  rw [flatE_length] at hjl
  obtain ⟨p, hp⟩ : ∃ p, es[j / 2]? = some p := ⟨_, List.getElem?_eq_getElem (by omega)⟩
  obtain ⟨b, o, e, c0, c1⟩ := he (j / 2) p hp
  cases e
  obtain ⟨f0, f1⟩ := flatE_at es (j / 2) p hp
  have ea : ((⟨b, o, none⟩ : Addr).add j) = ⟨b, o + j, none⟩ := by
    by_cases h0 : j = 0 <;> simp [Addr.add, h0]
  rw [ea]
  by_cases hm : j % 2 = 0
  · have e : j / 2 * 2 = j := by omega
    rw [e] at f0 c0
    rw [f0] at hj
    cases hj
    exact c0
  · have e : j / 2 * 2 + 1 = j := by omega
    rw [e] at f1
    have e3 : o + j / 2 * 2 + 1 = o + j := by omega
    rw [e3] at c1
    rw [f1] at hj
    cases hj
    exact c1

theorem flatE_append (l m : List (Int × Int)) : flatE (l ++ m) = flatE l ++ flatE m := by simp [flatE]
theorem flatE_oneCell (l : List (Int × Int)) : ∀ u ∈ flatE l, u.oneCell' = true := by
  intro u hu
  unfold flatE at hu
  rw [List.mem_flatMap] at hu
  obtain ⟨p, _, hp⟩ := hu
  simp at hp
  rcases hp with rfl | rfl <;> rfl

/-- 'append(v, xs...)', v a list of edges of one's own. -/
theorem wpList_extendE {ops : Array Oper} {rest : List Oper} {o : Oper} {a : Act} {Q : Exit → Act → World → Prop} (hgd : o.guard = none) (s x : Operand)
    (ho : o.op = .call { callee := .builtin .append, args := #[s, x], argTypes := #[22, 22] }) (W : World) (B : Nat) (v : Value) (l xs : List (Int × Int)) (hown : OwnE W B v l) (y : Addr) (xc n : Nat) (hn : xs.length = n) (hx0 : EdgesAt W (some y) xs)
    (hB : B ≤ W.heap.size) (hl : l.length + xs.length ≤ 8796093021952) (hs : a.eval s = v) (hx : a.eval x = .slice (some y) n xc)
    (h : ∀ v' w', OwnE w' B v' (l ++ xs) → Below B W w' → wpList Try.prog ops Q rest (a.put o.dst v') w') :
    wpList Try.prog ops Q (o :: rest) a W := by
  obtain ⟨i0, hi, hz0, hz1, hz2⟩ := info_parts Try.infoEdge
  subst hn
  refine wpList_append_own W hgd s x 22 ho B 26 i0 (.agg #[.int .i64 0, .int .i64 0]) 2 16 Try.underlying22 hi hz0 hz1 hz2 rfl (by decide) v l.length (flatE l) hs hown y xs.length xc (flatE xs) hx (flatE_length xs) (edge_news hx0) (flatE_oneCell xs) (by unfold maxLen; omega) (by omega) hB ?_
  intro v' w' hown' hg _
  refine h v' w' ?_ ((Below.refl B W).grown hg hB (fun b hb => (World.ownsRow.lt hown b hb).1))
  unfold OwnE
  rw [List.length_append, flatE_append]
  exact hown'

/-- 'append(v, e)', and what it leaves. -/
theorem wpList_pushE2 {ops : Array Oper} {rest : List Oper} {o : Oper} {a : Act} {Q : Exit → Act → World → Prop} (hgd : o.guard = none) (s x : Operand)
    (ho : o.op = .call { callee := .builtin .append, args := #[s, x], argTypes := #[22, 22] }) (W : World) (B : Nat) (v : Value) (l : List (Int × Int)) (y z : Int) (hown : OwnE W B v l)
    (hB : B ≤ W.heap.size) (hl : l.length ≤ 8796093022000) (hs : a.eval s = v) (hx : a.eval x = .slice (some ⟨W.heap.size, 0, none⟩) 1 1)
    (h : ∀ v' w', OwnE w' B v' (l ++ [(y, z)]) → (W.alloc (.cells #[.int .i64 y, .int .i64 z] 26)).grownBy w' v.ownBlock → (v'.ownBlock = v.ownBlock ∨ v'.ownBlock = some (W.heap.size + 1)) → Below B W w' → wpList Try.prog ops Q rest (a.put o.dst v') w') :
    wpList Try.prog ops Q (o :: rest) a (W.alloc (.cells #[.int .i64 y, .int .i64 z] 26)) := by
  obtain ⟨i0, hi, hz0, hz1, hz2⟩ := info_parts Try.infoEdge
  have hb0 : Below B W (W.alloc (.cells #[.int .i64 y, .int .i64 z] 26)) := (Below.refl _ _).alloc hB _
  refine wpList_append_own_at _ hgd s x 22 ho B 26 i0 (.agg #[.int .i64 0, .int .i64 0]) 2 16 Try.underlying22 hi hz0 hz1 hz2 rfl (by decide) _ _ _ hs (World.ownsRow.alloc hown _) ⟨W.heap.size, 0, none⟩ 1 1 [.int .i64 y, .int .i64 z] hx rfl (new_two_e _ _ rfl _ _ _) (by simp [Value.oneCell']) (by unfold maxLen; omega) (by omega) (by simp; omega) ?_
  intro v' w' hown' hg _ hat
  have ho' : OwnE w' B v' (l ++ [(y, z)]) := by
    unfold OwnE
    rw [flatE_snoc, List.length_append]
    exact hown'
  exact h v' w' ho' hg (by simpa using hat) (hb0.grown hg (by simp; omega) (fun b hb => (World.ownsRow.lt hown b hb).1))

theorem EdgesAt.below {w w' : World} {B b o : Nat} {es : List (Int × Int)} (h : EdgesAt w (some ⟨b, o, none⟩) es) (hb : Below B w w') (hB : b < B) : EdgesAt w' (some ⟨b, o, none⟩) es := fun j p hj => by
  obtain ⟨b', o', e, h0, h1⟩ := h j p hj
  cases e
  exact ⟨b, o, rfl, (hb.cell (p := ⟨b, o + j * 2, none⟩) hB).trans h0, (hb.cell (p := ⟨b, o + j * 2 + 1, none⟩) hB).trans h1⟩

theorem EdgesAt.tail {w : World} {b o : Nat} {m : Int × Int} {ms : List (Int × Int)} (h : EdgesAt w (some ⟨b, o, none⟩) (m :: ms)) : EdgesAt w (some ⟨b, o + 2, none⟩) ms := by
  intro j p hj
  obtain ⟨b', o', e, h0, h1⟩ := h (j + 1) p (by simpa using hj)
  cases e
  refine ⟨b, o + 2, rfl, ?_, ?_⟩
  · rw [show o + 2 + j * 2 = o + (j + 1) * 2 by omega]; exact h0
  · rw [show o + 2 + j * 2 + 1 = o + (j + 1) * 2 + 1 by omega]; exact h1

theorem below_grow {w w' : World} (h : ∃ (q : Nat) (os' : Array Obj), w' = grow (w.drewN q) os') : Below w.heap.size w w' := by
  obtain ⟨q, os', rfl⟩ := h
  exact grow_below w q os'

set_option maxRecDepth 100000 in
set_option maxHeartbeats 8000000 in
theorem eput_any (ao : Option Addr) (cap mb mo mc : Nat) (es ms : List (Int × Int)) (w : World) (he : EdgesAt w ao es) (hm : EdgesAt w (some ⟨mb, mo, none⟩) ms) (hl : es.length ≤ 8388608) (hlm : ms.length ≤ 8388608) (hmc : ms.length ≤ mc) (hmc2 : mc ≤ 8388608) (hmb0 : mb < w.heap.size) :
    Calls Try.prog 41 #[.slice ao es.length cap, .slice (some ⟨mb, mo, none⟩) ms.length mc] w fun e w' => ∃ v, e = .returned v ∧ OwnE w' w.heap.size v (Ed.mrg es ms) ∧ Below w.heap.size w w' := by
  obtain ⟨i0, hi, hz0, hz1, hz2⟩ := info_parts Try.infoEdge
  have HE := Nu.hid he
  have HM := Nu.hid hm
  obtain ⟨ce, hce⟩ : ∃ c : Nat, (es.length : Int) + (ms.length : Int) = (c : Int) := ⟨es.length + ms.length, by omega⟩
  have hce2 : ce ≤ 16777216 := by omega
  have HR := Nu.hid (Ed.mrg_length es ms)
  clear he hm
  go_enter Try.func41, Try.ntmps41
  go_wp2_with (at_make; refine wpList_make_own _ rfl _ _ 22 rfl w.heap.size 26 i0 (.agg #[.int .i64 0, .int .i64 0]) 2 Try.underlying22 hi hz0 hz1 _ _ _ ce rfl rfl (by first | exact hce | (rw [hce]; rfl) | rfl) (by rw [hz2]; omega) (by unfold maxLen; omega) (Nat.le_refl _) ?_; refine Hid.out ?_)
  refine Nu.hid ?_
  intro w1 hrow1 hg1
  have HROW1 : Hid (OwnE w1 w.heap.size (.slice (some ⟨w.heap.size, 0, none⟩) 0 ce) []) := hrow1
  have hb1 : Below w.heap.size w w1 := (Below.refl _ _).grown hg1 (Nat.le_refl _) (fun j hj => by cases hj)
  have HB1 := Nu.hid hb1
  have HCE := Nu.hid hce
  clear hrow1 hg1 hb1 hce
  go_wp2
  go_loopw [1, 5, 16] (fun s v c wr => ∃ (k : Nat) (A S : List (Int × Int)) (so sc q : Nat), k ≤ es.length ∧ c = .int .i64 k ∧ s = .slice (some ⟨mb, so, none⟩) q sc ∧ q = S.length ∧ S.length ≤ sc ∧ sc ≤ 8388608 ∧ EdgesAt wr (some ⟨mb, so, none⟩) S ∧ A ++ Ed.mrg (es.drop k) S = Ed.mrg es ms ∧ OwnE wr w.heap.size v A ∧ Below w.heap.size w wr) (fun _ _ c _ => es.length - (intOf c).toNat)
  case atStart => exact ⟨0, [], ms, mo, mc, _, Nat.zero_le _, rfl, rfl, rfl, hmc, hmc2, HM.out.later HB1.out, by simp, HROW1.out, HB1.out⟩
  case round =>
    obtain ⟨k, A, S, so, sc, q, hk, rfl, rfl, hq, hsc, hsc2, hS, hmg, hrow, hb⟩ := hrel
    have HROW := Nu.hid hrow
    have HB := Nu.hid hb
    have HS := Nu.hid hS
    have HMG := Nu.hid hmg
    have HQ := Nu.hid hq
    have hs0 : w.heap.size ≤ wr.heap.size := hb.size
    by_cases hlt : k < es.length
    · have hlti : (k : Int) < (es.length : Int) := by omega
      have hk0 : (0 : Int) ≤ (k : Int) := by omega
      obtain ⟨p, hp⟩ : ∃ p, es[k]? = some p := ⟨_, List.getElem?_eq_getElem hlt⟩
      obtain ⟨b, o, rfl, c0, c1⟩ := (HE.out.later hb) k p hp
      have hbl : b < wr.heap.size := block_lt_of_cell c0
      have hD : es.drop k = p :: es.drop (k + 1) := by
        rw [List.drop_eq_getElem_cons hlt]
        rw [List.getElem?_eq_getElem hlt] at hp
        cases hp
        rfl
      have HD := Nu.hid hD
      obtain ⟨p1, p2⟩ := p
      dsimp only at c0 c1
      clear hrow hb hS hmg hp hD hq
      obtain ⟨W0, hW0⟩ : ∃ W0, W0 = wr := ⟨_, rfl⟩
      have HEB0 : Hid ((wr.alloc (.cells #[.int .i64 p1, .int .i64 p2] 26)).heap[wr.heap.size]? = some (.cells #[.int .i64 p1, .int .i64 p2] 26 (0, 0))) := heap_alloc_new wr _
      subst hW0
      go_wp2
      go_loopw [1, 5] (fun s v wt => ∃ (A S : List (Int × Int)) (so sc q : Nat), s = .slice (some ⟨mb, so, none⟩) q sc ∧ q = S.length ∧ S.length ≤ sc ∧ sc ≤ 8388608 ∧ EdgesAt wt (some ⟨mb, so, none⟩) S ∧ A ++ Ed.mrg ((p1, p2) :: es.drop (k + 1)) S = Ed.mrg es ms ∧ OwnE wt w.heap.size v A ∧ wt.heap[W0.heap.size]? = some (.cells #[.int .i64 p1, .int .i64 p2] 26 (0, 0)) ∧ Below w.heap.size w wt ∧ v.ownBlock ≠ some W0.heap.size) (fun s _ _ => match s with | .slice _ n _ => n | _ => 0)
      case atStart => exact ⟨A, S, so, sc, q, rfl, HQ.out, hsc, hsc2, HS.out.later ((Below.refl _ _).alloc (Nat.le_refl _) _), by rw [← HD.out]; exact HMG.out, HROW.out.alloc _, HEB0.out, HB.out.alloc hs0 _, fun hx => by have := (World.ownsRow.lt HROW.out _ hx).2; omega⟩
      case round =>
        obtain ⟨A, S, so, sc, q, rfl, hq, hsc, hsc2, hS, hmg, hrow, heb, hb, hvo⟩ := hrel
        have HVO := Nu.hid hvo
        clear hvo
        have HROW := Nu.hid hrow
        have HB := Nu.hid hb
        have HS := Nu.hid hS
        have HMG := Nu.hid hmg
        have HEB := Nu.hid heb
        have hs1 : w.heap.size ≤ wr.heap.size := hb.size
        have hAl : A.length + S.length + es.length - k ≤ 16777216 + 100 ∧ A.length ≤ 16777216 := by
          have h1 := congrArg List.length hmg
          rw [List.length_append, Ed.mrg_length, HR.out, List.length_cons, List.length_drop] at h1
          omega
        have hA2 := hAl.2
        obtain ⟨e0, e1, -⟩ := pair_cells heb
        have hsw := lt_of_block heb
        clear hrow hb hmg heb hAl
        cases S with
        | nil =>
          have hq0 : q = 0 := hq
          subst hq0
          clear hq hS
          go_wp2_with fail
          go_quiet (fail)
          have HEB2 : Hid ((wr.drewN nq).heap[W0.heap.size]? = some (.cells #[.int .i64 p1, .int .i64 p2] 26 (0, 0))) := HEB.out
          have HB2 := Nu.hid (below_drewN HB.out nq)
          have HROW2 : Hid (OwnE (wr.drewN nq) w.heap.size u5 A) := HROW.out
          have HS2 : Hid (EdgesAt (wr.drewN nq) (some ⟨mb, so, none⟩) []) := HS.out
          generalize wr.drewN nq = w2 at HEB2 HB2 HROW2 HS2 ⊢
          clear e0 e1
          obtain ⟨e0, e1, -⟩ := pair_cells HEB2.out
          have hs2 : w.heap.size ≤ w2.heap.size := HB2.out.size
          have hsw2 := lt_of_block HEB2.out
          go_wp2_with (at_builtin; refine wpList_pushE rfl _ _ rfl _ w.heap.size _ A p1 p2 HROW2.out hs2 (by omega) rfl rfl ?_; refine Hid.out ?_)
          refine Nu.hid ?_
          intro v' w3 hrow3 hb3
          have HROW3 := Nu.hid hrow3
          have HB3 := Nu.hid (HB2.out.trans hb3)
          clear hrow3 hb3
          go_wp2
          go_roundw
          case rel => exact ⟨k + 1, A ++ [(p1, p2)], [], so, sc, 0, by omega, by go_num, rfl, rfl, hsc, hsc2, EdgesAt.nil _ _, by rw [← HMG.out, Ed.mrg_nil, Ed.mrg_nil]; simp, HROW3.out, HB3.out⟩
          case measure => simp [intOf]; omega
        | cons m S =>
          obtain ⟨m1, m2⟩ := m
          obtain ⟨q', rfl⟩ : ∃ q', q = q' + 1 := ⟨S.length, by simpa using hq⟩
          have hq' : q' = S.length := by simpa using hq
          obtain ⟨sc', rfl⟩ : ∃ sc', sc = sc' + 1 := ⟨sc - 1, by simp at hsc; omega⟩
          have hsc' : S.length ≤ sc' := by simpa using hsc
          obtain ⟨b', o', eb, c0, c1⟩ := hS 0 (m1, m2) (by simp)
          cases eb
          simp only [Nat.zero_mul, Nat.add_zero] at c0 c1
          have hmb : mb < wr.heap.size := block_lt_of_cell c0
          have HQ' := Nu.hid hq'
          have hq0 : (0 : Int) < ((q' + 1 : Nat) : Int) := by omega
          have hA3 : A.length ≤ 16777216 := hA2
          have hca := fun W => ecompare_any (m1, m2) (p1, p2) W
          unfold edgeVal at hca
          dsimp only at hca
          have HCA := Nu.hid hca
          clear hq hsc hq' hS hca
          by_cases hlt2 : Si.lt (m1, m2) (p1, p2)
          · have hcf := Si.cf_neg.2 hlt2
            have HLT := Nu.hid hlt2
            generalize Si.cf (m1, m2) (p1, p2) = r at HCA hcf
            clear hlt2
            go_wp2
            go_region_held3 (fun w' => w'.cell? ⟨mb, so, none⟩ = some (.int .i64 m1) ∧ w'.cell? ⟨mb, so + 1, none⟩ = some (.int .i64 m2) ∧ w'.cell? ⟨W0.heap.size, 0, none⟩ = some (.int .i64 p1) ∧ w'.cell? ⟨W0.heap.size, 1, none⟩ = some (.int .i64 p2))
              (first
                | go_keep
                | (go_split_ands
                   refine ⟨?_, ?_, ?_, ?_⟩ <;> (refine (hb2.cell (p := ⟨_, _, none⟩) ?_).trans ?_ <;> first | assumption | (simp; omega))))
              ((go_at_call 53; refine (HCA.out _).mono ?_; rintro e w2 ⟨rfl, hgr⟩; have hb2 : Below wr.heap.size wr w2 := (Below.refl wr.heap.size wr).drew.trans (below_grow hgr)))
            have HB2 := Nu.hid (HB.out.trans (hb2.mono HB.out.size))
            have HEB2 := Nu.hid ((hb2.block _ hsw).trans HEB.out)
            have HROW2 := Nu.hid (HROW.out.below hb2 (Nat.le_refl _))
            have HS2 := Nu.hid (HS.out.later hb2)
            have hs2 : w.heap.size ≤ w2.heap.size := HB2.out.size
            have hsw2 := lt_of_block HEB2.out
            have hmb2 : mb < w2.heap.size := Nat.lt_of_lt_of_le hmb hb2.size
            have c0' := (hb2.cell (p := ⟨mb, so, none⟩) hmb).trans c0
            have c1' := (hb2.cell (p := ⟨mb, so + 1, none⟩) hmb).trans c1
            clear hb2 hgr c0 c1 e0 e1
            obtain ⟨e0, e1, -⟩ := pair_cells HEB2.out
            go_wp2_with (at_builtin; refine wpList_pushE2 rfl _ _ rfl _ w.heap.size _ A m1 m2 HROW2.out hs2 (by omega) rfl rfl ?_; refine Hid.out ?_)
            refine Nu.hid ?_
            intro v' w3 hrow3 hg3 hat3 hb3
            have HROW3 := Nu.hid hrow3
            have HB3 := Nu.hid (HB2.out.trans hb3)
            have HS3 := Nu.hid (HS2.out.below hb3 hmb0)
            have HEB3 := Nu.hid ((hg3.block W0.heap.size (by simp; omega) (fun h => HVO.out h.symm)).trans ((Below.heap_alloc _ _ _ hsw2).trans HEB2.out))
            have HVO3 : Hid (v'.ownBlock ≠ some W0.heap.size) := by
              intro hx
              rcases hat3 with h | h
              · exact HVO.out (h.symm.trans hx)
              · rw [h] at hx
                have := Option.some.inj hx
                omega
            have HMG3 : Hid ((A ++ [(m1, m2)]) ++ Ed.mrg ((p1, p2) :: es.drop (k + 1)) S = Ed.mrg es ms) := by
              show _ = _
              rw [← HMG.out, Ed.mrg_lt HLT.out]
              simp
            clear hrow3 hg3 hat3 hb3 c0' c1' e0 e1
            by_cases hz : sc' = 0
            · subst hz
              have hSn : S = [] := List.length_eq_zero_iff.1 (by omega)
              have HSN := Nu.hid hSn
              have hqz : q' = 0 := by rw [HQ'.out, hSn]; rfl
              subst hqz
              clear hSn
              go_wp2
              go_roundw
              case rel => exact ⟨A ++ [(m1, m2)], S, so, 0, 0, rfl, by rw [HSN.out]; rfl, by rw [HSN.out]; exact Nat.le_refl _, by omega, by rw [HSN.out]; exact EdgesAt.nil _ _, HMG3.out, HROW3.out, HEB3.out, HB3.out, HVO3.out⟩
              case measure => simp
            · go_wp2
              go_roundw
              case rel => exact ⟨A ++ [(m1, m2)], S, so + 2, sc', q', rfl, HQ'.out, hsc', by omega, HS3.out.tail, HMG3.out, HROW3.out, HEB3.out, HB3.out, HVO3.out⟩
              case measure => simp
          · have hcf : ¬ (Si.cf (m1, m2) (p1, p2) < 0) := fun h => hlt2 (Si.cf_neg.1 h)
            have HLT := Nu.hid hlt2
            generalize Si.cf (m1, m2) (p1, p2) = r at HCA hcf
            clear hlt2
            go_wp2
            go_region_held3 (fun w' => w'.cell? ⟨mb, so, none⟩ = some (.int .i64 m1) ∧ w'.cell? ⟨mb, so + 1, none⟩ = some (.int .i64 m2) ∧ w'.cell? ⟨W0.heap.size, 0, none⟩ = some (.int .i64 p1) ∧ w'.cell? ⟨W0.heap.size, 1, none⟩ = some (.int .i64 p2))
              (first
                | go_keep
                | (go_split_ands
                   refine ⟨?_, ?_, ?_, ?_⟩ <;> (refine (hb2.cell (p := ⟨_, _, none⟩) ?_).trans ?_ <;> first | assumption | (simp; omega))))
              ((go_at_call 53; refine (HCA.out _).mono ?_; rintro e w2 ⟨rfl, hgr⟩; have hb2 : Below wr.heap.size wr w2 := (Below.refl wr.heap.size wr).drew.trans (below_grow hgr)))
            have HB2 := Nu.hid (HB.out.trans (hb2.mono HB.out.size))
            have HEB2 := Nu.hid ((hb2.block _ hsw).trans HEB.out)
            have HROW2 := Nu.hid (HROW.out.below hb2 (Nat.le_refl _))
            have HS2 := Nu.hid (HS.out.later hb2)
            have hs2 : w.heap.size ≤ w2.heap.size := HB2.out.size
            have hsw2 := lt_of_block HEB2.out
            have hmb2 : mb < w2.heap.size := Nat.lt_of_lt_of_le hmb hb2.size
            have c0' := (hb2.cell (p := ⟨mb, so, none⟩) hmb).trans c0
            have c1' := (hb2.cell (p := ⟨mb, so + 1, none⟩) hmb).trans c1
            clear hb2 hgr c0 c1 e0 e1
            obtain ⟨e0, e1, -⟩ := pair_cells HEB2.out
            go_wp2_with (at_builtin; refine wpList_pushE rfl _ _ rfl _ w.heap.size _ A p1 p2 HROW2.out hs2 (by omega) rfl rfl ?_; refine Hid.out ?_)
            refine Nu.hid ?_
            intro v' w3 hrow3 hb3
            have HROW3 := Nu.hid hrow3
            have HB3 := Nu.hid (HB2.out.trans hb3)
            have HS3 := Nu.hid (HS2.out.below hb3 hmb0)
            clear hrow3 hb3
            go_wp2
            go_roundw
            case rel => exact ⟨k + 1, A ++ [(p1, p2)], (m1, m2) :: S, so, sc' + 1, q' + 1, by omega, by go_num, rfl, by rw [HQ'.out]; rfl, by simp; omega, hsc2, HS3.out, by rw [← HMG.out, Ed.mrg_ge HLT.out]; simp, HROW3.out, HB3.out⟩
            case measure => simp [intOf]; omega
    · have hd : ¬ ((k : Int) < (es.length : Int)) := by omega
      have hAl : A.length + S.length ≤ 16777216 ∧ A ++ S = Ed.mrg es ms := by
        rw [List.drop_eq_nil_of_le (by omega), Ed.nil_mrg] at hmg
        have h1 := congrArg List.length hmg
        rw [List.length_append, HR.out] at h1
        exact ⟨by omega, hmg⟩
      have hA2 := hAl.1
      have HAS := Nu.hid hAl.2
      clear hrow hb hS hmg hAl hq
      go_wp2_with (at_builtin; refine wpList_extendE rfl _ _ rfl _ w.heap.size _ A S HROW.out ⟨mb, so, none⟩ sc q HQ.out.symm HS.out hs0 (by omega) rfl rfl ?_; refine Hid.out ?_)
      refine Nu.hid ?_
      intro v' w3 hrow3 hb3
      have HROW3 := Nu.hid hrow3
      have HB3 := Nu.hid (HB.out.trans hb3)
      clear hrow3 hb3
      go_wp2
      go_ret
      exact ⟨_, rfl, by rw [← HAS.out]; exact HROW3.out, HB3.out⟩

end Go.Proofs.Ytdkckdbpbdhoaaa
