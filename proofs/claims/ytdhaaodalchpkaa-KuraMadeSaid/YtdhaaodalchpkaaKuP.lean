/-
  The document's sides of layer 15.
-/
import Derived.Test.YtdhaaodalchpkaaKuO
import Derived.Deep.Upon
namespace Go.Proofs.Ytdhaaodalchpkaa
open Go.RowKit Go.Sort

/-- 'append(v, u...)', both lists of one's own. -/
theorem wpList_join {ops : Array Oper} {rest : List Oper} {o : Oper} {a : Act} {Q : Exit → Act → World → Prop} (hgd : o.guard = none) (s x : Operand)
    (ho : o.op = .call { callee := .builtin .append, args := #[s, x], argTypes := #[36, 36] }) (W : World) (B : Nat) (v u : Value) (l m : List Int) (hown : OwnZ W B v l) (hu : OwnZ W B u m)
    (hB : B ≤ W.heap.size) (hl : l.length + m.length ≤ 17592186044000) (hs : a.eval s = v) (hx : a.eval x = u)
    (h : ∀ v' w', OwnZ w' B v' (l ++ m) → Below B W w' → wpList Try.prog ops Q rest (a.put o.dst v') w') :
    wpList Try.prog ops Q (o :: rest) a W := by
  obtain ⟨i0, hi, hz0, hz1, hz2⟩ := info_parts Try.infoNum
  have hoB : ∀ b, v.ownBlock = some b → B ≤ b := fun b hb => (World.ownsRow.lt hown b hb).1
  rcases hu.2 with ⟨rfl, hm0⟩ | ⟨g, cap, cur, rfl, hgB, hh, hc, hm, hsz, ht⟩
  · obtain rfl := List.eq_nil_of_length_eq_zero hm0
    obtain ⟨va, vc, rfl, -, -⟩ := hown.form
    have hle : l.length ≤ vc := by
      rcases hown.2 with ⟨e, h0⟩ | ⟨g, cap, cur, e, _, _, hc, _⟩
      · omega
      · cases e; exact hc
    refine wpList_plain hgd fun K hK => ?_
    have hr := run_append_nothing (P := Try.prog) W 36 36 o.type 3 i0 Try.underlying36 hi va l.length vc hle _ (Src.ofNil (w := W) (size := i0.size) Try.underlying36 0)
    unfold Oper.wp execOp
    simp only [ho, resolve, invoke, builtin, Sem.run_bind, Sem.run_pure, Result.andThen_ok, List.map_toArray, List.map_cons, List.map_nil, hs, hx, hr]
    exact hK _ _ (h _ W (by rw [List.append_nil]; exact hown) (Below.refl _ _))
  · refine wpList_append_own_at _ hgd s x 36 ho B 3 i0 (.int .i64 0) 1 8 Try.underlying36 hi hz0 hz1 hz2 rfl (by decide) _ _ _ hs hown ⟨g, 0, none⟩ m.length cap (m.map (Value.int .i64)) hx (by simp) (fun j y hj => World.ownsRow.cells hu (g := g) rfl j y hj) (fun y hy => by
      obtain ⟨z, _, rfl⟩ := List.mem_map.1 hy
      rfl) (by unfold maxLen; omega) (by omega) hB ?_
    intro v' w' hown' hg _ hat
    refine h v' w' ?_ ((Below.refl B W).grown hg hB hoB)
    unfold OwnZ
    rw [List.length_append, List.map_append]
    exact hown'

namespace Ku
/-- A chain leads from a to b. -/
def Leads (l : List Int) (a b : Int) : Prop := (gI l 0 = a ∧ gI l (l.length - 1) = b) ∨ (gI l (l.length - 1) = a ∧ gI l 0 = b)
/-- Of the row h, the k-th is across from the first. -/
def Across (ls : List (List Int)) (h : List Int) (k : Nat) : Prop := (∃ l ∈ ls, Leads l (gI h 0) (gI h k)) ∧ 0 < k
open Classical in
/-- The sides: those on the first's side below k. -/
noncomputable def nearL (ls : List (List Int)) (h : List Int) : Nat → List Int
  | 0 => []
  | k + 1 => if Across ls h k then nearL ls h k else nearL ls h k ++ [gI h k]
open Classical in
noncomputable def farL (ls : List (List Int)) (h : List Int) : Nat → List Int
  | 0 => []
  | k + 1 => if Across ls h k then farL ls h k ++ [gI h k] else farL ls h k
theorem sides_len (ls : List (List Int)) (h : List Int) : ∀ k, (nearL ls h k).length + (farL ls h k).length = k
  | 0 => rfl
  | k + 1 => by
    have := sides_len ls h k
    unfold nearL farL
    split
    · rw [List.length_append]; simp; omega
    · rw [List.length_append]; simp; omega
theorem near_yes {ls : List (List Int)} {h : List Int} {k : Nat} (a : Across ls h k) : nearL ls h (k + 1) = nearL ls h k := if_pos a
theorem near_no {ls : List (List Int)} {h : List Int} {k : Nat} (a : ¬ Across ls h k) : nearL ls h (k + 1) = nearL ls h k ++ [gI h k] := if_neg a
theorem far_yes {ls : List (List Int)} {h : List Int} {k : Nat} (a : Across ls h k) : farL ls h (k + 1) = farL ls h k ++ [gI h k] := if_pos a
theorem far_no {ls : List (List Int)} {h : List Int} {k : Nat} (a : ¬ Across ls h k) : farL ls h (k + 1) = farL ls h k := if_neg a

/-- Two lists of one's own, apart. -/
structure TwoZ (w : World) (B : Nat) (v u : Value) (l m : List Int) : Prop where
  one : OwnZ w B v l
  two : OwnZ w B u m
  apart : ∀ b, v.ownBlock = some b → u.ownBlock ≠ some b
theorem TwoZ.later {w w' : World} {B : Nat} {v u : Value} {l m : List Int} (h : TwoZ w B v u l m) (hb : Below w.heap.size w w') : TwoZ w' B v u l m := ⟨h.one.later hb, h.two.later hb, h.apart⟩
theorem TwoZ.swap {w : World} {B : Nat} {v u : Value} {l m : List Int} (h : TwoZ w B v u l m) : TwoZ w B u v m l := ⟨h.two, h.one, fun b hb e => h.apart b e hb⟩
theorem TwoZ.push {w w' : World} {ob : Obj} {B : Nat} {v v' u : Value} {l m : List Int} {z : Int} (h : TwoZ w B v u l m) (ho : OwnZ w' B v' (l ++ [z])) (hg : (w.alloc ob).grownBy w' v.ownBlock) (hat : v'.ownBlock = v.ownBlock ∨ v'.ownBlock = some (w.heap.size + 1)) : TwoZ w' B v' u (l ++ [z]) m := by
  refine ⟨ho, h.two.same fun g hg' hlt => ?_, fun b hb e => ?_⟩
  · rw [hg.block g (by simp; omega) (fun e => h.apart g e.symm hg')]
    exact heap_alloc_old w ob hlt
  · rcases hat with e1 | e1
    · exact h.apart b (by rw [← e1]; exact hb) e
    · have := (World.ownsRow.lt h.two b e).2
      rw [hb] at e1
      cases e1
      omega
end Ku

set_option maxRecDepth 100000 in
set_option maxHeartbeats 16000000 in
theorem ksides_any (B : Nat) (ao : Option Addr) (J c : Nat) (us : List Value) (ls : List (List Int)) (ho : Option Addr) (q hc : Nat) (h : List Int) (w : World) (hJ : ls.length = J) (hrows : RowsZ w B (.slice ao J c) us ls) (hl : J ≤ 17592186044000)
    (hr : ∀ l ∈ ls, 1 ≤ l.length ∧ l.length ≤ 17592186044000) (hq : h.length = q) (hi : IntsAt w ho h) (hql : q ≤ 17592186044000) :
    Calls Try.prog 34 #[.slice ao J c, .slice ho q hc] w fun e w' => ∃ v, e = .returned v ∧ OwnZ w' w.heap.size v (Ku.nearL ls h q ++ Ku.farL ls h q) ∧ Below w.heap.size w w' := by
  have HRZ := Nu.hid hrows
  have HJ := Nu.hid hJ
  have HR := Nu.hid hr
  have HI := Nu.hid hi
  have HQ := Nu.hid hq
  clear hrows hJ hr hi hq
  go_enter Try.func34, Try.ntmps34
  go_wp2
  go_loopw [5, 6, 7] (fun v1 v2 cv wr => ∃ i : Nat, i ≤ q ∧ cv = .int .i64 (i : Int) ∧ Ku.TwoZ wr w.heap.size v1 v2 (Ku.nearL ls h i) (Ku.farL ls h i) ∧ Below w.heap.size w wr) (fun _ _ cv _ => q - (intOf cv).toNat)
  case atStart => exact ⟨0, Nat.zero_le _, rfl, ⟨OwnZ.nil _ _, OwnZ.nil _ _, fun b hb => by cases hb⟩, Below.refl _ _⟩
  case round =>
    obtain ⟨i, hiq, rfl, htz, hb⟩ := hrel
    obtain ⟨U, rfl⟩ : ∃ U, U = wr := ⟨wr, rfl⟩
    have HTZ := Nu.hid htz
    have HB := Nu.hid hb
    have hs0 := hb.size
    have hwi : IntKind.i64.wrap ((i : Int) + 1) = (i : Int) + 1 := by rw [IntKind.wrap_i64]; omega
    have hlen := Ku.sides_len ls h i
    by_cases hlt : i < q
    · have hi0 : (0 : Int) ≤ (i : Int) := by omega
      have hi1 : (i : Int) < (q : Int) := by omega
      have hq1 : (0 : Int) < (q : Int) := by omega
      obtain ⟨h0, hh0⟩ : ∃ x, h[0]? = some x := ⟨_, List.getElem?_eq_getElem (by rw [HQ.out]; omega)⟩
      obtain ⟨hx, hhx⟩ : ∃ x, h[i]? = some x := ⟨_, List.getElem?_eq_getElem (by rw [HQ.out]; omega)⟩
      have hIU := HI.out.later hb
      obtain ⟨hb0, hof, hho, f0⟩ := hIU 0 h0 hh0
      obtain ⟨hb0', hof', hho', f1⟩ := hIU i hx hhx
      rw [hho] at hho'
      cases hho'
      subst hho
      simp only [Nat.add_zero] at f0
      have G0 := Nu.hid (Ku.gI_at hh0)
      have GX := Nu.hid (Ku.gI_at hhx)
      have HRU := Nu.hid (HRZ.out.later hb)
      clear htz hb hh0 hhx hIU
      go_wp2
      go_loopw [8, 9] (fun d cv wx => ∃ (k : Nat) (b : Bool), k ≤ J ∧ cv = .int .i64 (k : Int) ∧ d = .bool b ∧ (b = true ↔ ∃ t l, t < k ∧ ls[t]? = some l ∧ Ku.Leads l h0 hx) ∧ wx = U) (fun _ cv _ => J - (intOf cv).toNat)
      case atStart => exact ⟨0, false, Nat.zero_le _, rfl, rfl, ⟨fun h => (by cases h), fun ⟨t, c, ht, _⟩ => by omega⟩, rfl⟩
      case round =>
        obtain ⟨k, b, hk, rfl, rfl, hbi, hwr⟩ := hrel
        subst hwr
        have HBI := Nu.hid hbi
        have hwk : IntKind.i64.wrap ((k : Int) + 1) = (k : Int) + 1 := by rw [IntKind.wrap_i64]; omega
        by_cases hkJ : k < J
        · have hk0 : (0 : Int) ≤ (k : Int) := by omega
          have hk1 : (k : Int) < (J : Int) := by omega
          obtain ⟨lr, hlr⟩ : ∃ lr, ls[k]? = some lr := ⟨_, List.getElem?_eq_getElem (by rw [HJ.out]; exact hkJ)⟩
          obtain ⟨u, hu⟩ := HRU.out.at' hlr
          obtain ⟨gv, gc, hvg, cx⟩ := Ku.krow_at HRU.out hu
          rw [HJ.out] at hvg
          have hvo : ao = some ⟨gv, 0, none⟩ := by cases hvg; rfl
          obtain ⟨xa, xc, hxe, hxi, -⟩ := (HRU.out.row k u lr hu hlr).form
          obtain ⟨Ln, hLn⟩ : ∃ Ln, lr.length = Ln := ⟨_, rfl⟩
          have hLb : 1 ≤ Ln ∧ Ln ≤ 17592186044000 := by rw [← hLn]; exact HR.out lr (List.mem_of_getElem? hlr)
          obtain ⟨hL1, hL2⟩ := hLb
          rw [hLn] at hxe
          subst hxe
          subst hvo
          obtain ⟨a, ha⟩ : ∃ a, lr[0]? = some a := ⟨_, List.getElem?_eq_getElem (by omega)⟩
          obtain ⟨z, hz⟩ : ∃ z, lr[Ln - 1]? = some z := ⟨_, List.getElem?_eq_getElem (by omega)⟩
          obtain ⟨b1, o1, hbo, e0⟩ := hxi 0 a ha
          obtain ⟨b1', o1', hbo', e1⟩ := hxi (Ln - 1) z hz
          rw [hbo] at hbo'
          cases hbo'
          subst hbo
          have hLi : (0 : Int) < (Ln : Int) := by omega
          have hwL : IntKind.i64.wrap ((Ln : Int) - 1) = ((Ln - 1 : Nat) : Int) := by rw [IntKind.wrap_i64]; omega
          have hL3 : (0 : Int) ≤ ((Ln - 1 : Nat) : Int) := by omega
          have hL4 : ((Ln - 1 : Nat) : Int) < (Ln : Int) := by omega
          have ga := Ku.gI_at ha
          have gz := Ku.gI_at hz
          obtain ⟨y1, hy1⟩ : ∃ y, (a == h0) = y := ⟨_, rfl⟩
          obtain ⟨y2, hy2⟩ : ∃ y, (z == hx) = y := ⟨_, rfl⟩
          obtain ⟨y3, hy3⟩ : ∃ y, (z == h0) = y := ⟨_, rfl⟩
          obtain ⟨y4, hy4⟩ : ∃ y, (a == hx) = y := ⟨_, rfl⟩
          have HNX : Hid ((b || (y1 && y2 || y3 && y4)) = true ↔ ∃ t l, t < k + 1 ∧ ls[t]? = some l ∧ Ku.Leads l h0 hx) := by
            refine Nu.hid ?_
            have hld : (y1 && y2 || y3 && y4) = true ↔ Ku.Leads lr h0 hx := by
              unfold Ku.Leads
              rw [hLn, ga, gz, ← hy1, ← hy2, ← hy3, ← hy4]
              simp
            rw [Bool.or_eq_true, HBI.out, hld]
            constructor
            · rintro (⟨t, c', ht, h1, h2⟩ | h)
              · exact ⟨t, c', by omega, h1, h2⟩
              · exact ⟨k, lr, by omega, hlr, h⟩
            · rintro ⟨t, c', ht, h1, h2⟩
              by_cases e : t = k
              · subst e
                rw [hlr] at h1
                cases h1
                exact .inr h2
              · exact .inl ⟨t, c', by omega, h1, h2⟩
          simp only [Nat.add_zero] at e0
          clear hbi hlr hu hvg hLn ha hz hxi ga gz
          cases y1 <;> cases y2 <;> cases y3 <;> cases y4
          all_goals
            go_wp2
            go_roundw
            case rel => exact ⟨k + 1, _, by omega, by go_num, by first | rfl | (simp; done), by have := HNX.out; simpa using this, by first | rfl | trivial⟩
            case measure => simp [intOf]; omega
        · have hd : ¬ ((k : Int) < (J : Int)) := by omega
          obtain rfl : k = J := by omega
          have hin : b = true ↔ ∃ l ∈ ls, Ku.Leads l (Ku.gI h 0) (Ku.gI h i) := by
            rw [G0.out, GX.out, hbi]
            constructor
            · rintro ⟨t, l, _, h1, h2⟩
              exact ⟨l, List.mem_of_getElem? h1, h2⟩
            · rintro ⟨l, h1, h2⟩
              obtain ⟨t, ht⟩ := List.getElem?_of_mem h1
              exact ⟨t, l, by rw [← HJ.out]; exact (List.getElem?_eq_some_iff.1 ht).1, ht, h2⟩
          have hacr : (b = true ∧ 0 < i) ↔ Ku.Across ls h i := by unfold Ku.Across; rw [hin]
          by_cases hcase : b = true ∧ 0 < i
          · obtain ⟨rfl, hpos⟩ := hcase
            have hpi : (0 : Int) < (i : Int) := by omega
            have hA := hacr.1 ⟨rfl, hpos⟩
            have HN1 : Hid (Ku.nearL ls h (i + 1) = Ku.nearL ls h i) := Ku.near_yes hA
            have HN2 : Hid (Ku.farL ls h (i + 1) = Ku.farL ls h i ++ [hx]) := by have := Ku.far_yes hA; rw [GX.out] at this; exact this
            have hll : (Ku.farL ls h i).length ≤ 17592186044000 := by omega
            clear hbi hin hacr hA
            go_wp2_with (at_builtin; refine wpList_push rfl _ _ rfl _ w.heap.size _ _ hx HTZ.out.two hs0 hll rfl rfl ?_; refine Hid.out ?_)
            refine Nu.hid ?_
            intro v' w3 hrow3 hg3 hat3 hb3
            have HT3 := Nu.hid (HTZ.out.swap.push hrow3 hg3 hat3).swap
            have HB3 := Nu.hid (HB.out.trans hb3)
            clear hrow3 hg3 hat3 hb3
            go_wp2
            go_roundw
            case rel => exact ⟨i + 1, by omega, by go_num, by rw [HN1.out, HN2.out]; exact HT3.out, HB3.out⟩
            case measure => simp [intOf]; omega
          · have hA : ¬ Ku.Across ls h i := fun x => hcase (hacr.2 x)
            have HN1 : Hid (Ku.nearL ls h (i + 1) = Ku.nearL ls h i ++ [hx]) := by have := Ku.near_no hA; rw [GX.out] at this; exact this
            have HN2 : Hid (Ku.farL ls h (i + 1) = Ku.farL ls h i) := Ku.far_no hA
            have hll : (Ku.nearL ls h i).length ≤ 17592186044000 := by omega
            cases b with
            | true =>
              have hpi : ¬ (0 : Int) < (i : Int) := fun x => hcase ⟨rfl, by omega⟩
              clear hbi hin hacr hA hcase
              go_wp2_with (at_builtin; refine wpList_push rfl _ _ rfl _ w.heap.size _ _ hx HTZ.out.one hs0 hll rfl rfl ?_; refine Hid.out ?_)
              refine Nu.hid ?_
              intro v' w3 hrow3 hg3 hat3 hb3
              have HT3 := Nu.hid (HTZ.out.push hrow3 hg3 hat3)
              have HB3 := Nu.hid (HB.out.trans hb3)
              clear hrow3 hg3 hat3 hb3
              go_wp2
              go_roundw
              case rel => exact ⟨i + 1, by omega, by go_num, by rw [HN1.out, HN2.out]; exact HT3.out, HB3.out⟩
              case measure => simp [intOf]; omega
            | false =>
              clear hbi hin hacr hA hcase
              go_wp2_with (at_builtin; refine wpList_push rfl _ _ rfl _ w.heap.size _ _ hx HTZ.out.one hs0 hll rfl rfl ?_; refine Hid.out ?_)
              refine Nu.hid ?_
              intro v' w3 hrow3 hg3 hat3 hb3
              have HT3 := Nu.hid (HTZ.out.push hrow3 hg3 hat3)
              have HB3 := Nu.hid (HB.out.trans hb3)
              clear hrow3 hg3 hat3 hb3
              go_wp2
              go_roundw
              case rel => exact ⟨i + 1, by omega, by go_num, by rw [HN1.out, HN2.out]; exact HT3.out, HB3.out⟩
              case measure => simp [intOf]; omega
    · have hd : ¬ ((i : Int) < (q : Int)) := by omega
      obtain rfl : i = q := by omega
      clear htz hb
      go_wp2_with (at_builtin; refine wpList_join rfl _ _ rfl _ w.heap.size _ _ _ _ HTZ.out.one HTZ.out.two hs0 (by omega) rfl rfl ?_; refine Hid.out ?_)
      refine Nu.hid ?_
      intro v' w3 ho3 hb3
      have HO3 := Nu.hid ho3
      have HB3 := Nu.hid (HB.out.trans hb3)
      clear ho3 hb3
      go_wp2
      go_ret
      exact ⟨_, rfl, HO3.out, HB3.out⟩

end Go.Proofs.Ytdhaaodalchpkaa
