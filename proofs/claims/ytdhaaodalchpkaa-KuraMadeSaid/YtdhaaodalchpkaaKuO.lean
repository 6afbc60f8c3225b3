/-
  The document's of and between of layer 15.
-/
import Derived.Test.YtdhaaodalchpkaaKuN
namespace Go.Proofs.Ytdhaaodalchpkaa
open Go.RowKit Go.Sort

namespace Ku
/-- The places below k where a row has d. -/
def ofL (l : List Int) (d : Int) : Nat → List Int
  | 0 => []
  | k + 1 => if gI l k = d then ofL l d k ++ [(k : Int)] else ofL l d k
theorem ofL_length (l : List Int) (d : Int) : ∀ k, (ofL l d k).length ≤ k
  | 0 => Nat.le_refl _
  | k + 1 => by
    have := ofL_length l d k
    unfold ofL
    split
    · rw [List.length_append]; simp; omega
    · omega
/-- A chain seen from x to y, if it goes there. -/
def hit (l : List Int) (x y : Int) : Option (List Int) := if gI l 0 = x ∧ gI l (l.length - 1) = y then some l else if gI l 0 = y ∧ gI l (l.length - 1) = x then some l.reverse else none
/-- The last of the first k chains that goes from x to y, and how many do. -/
def betw (ls : List (List Int)) (x y : Int) : Nat → List Int × Nat
  | 0 => ([], 0)
  | k + 1 => match hit (ls.getD k []) x y with
    | some r => (r, (betw ls x y k).2 + 1)
    | none => betw ls x y k
theorem betw_le (ls : List (List Int)) (x y : Int) : ∀ k, (betw ls x y k).2 ≤ k
  | 0 => Nat.le_refl _
  | k + 1 => by
    have := betw_le ls x y k
    unfold betw
    split
    · simp; omega
    · omega
theorem betw_some {ls : List (List Int)} {x y : Int} {k : Nat} {l r : List Int} (h : ls[k]? = some l) (hr : hit l x y = some r) : betw ls x y (k + 1) = (r, (betw ls x y k).2 + 1) := by
  have e : ls.getD k [] = l := by rw [List.getD_eq_getElem?_getD, h]; rfl
  show (match hit (ls.getD k []) x y with | some r => (r, (betw ls x y k).2 + 1) | none => betw ls x y k) = _
  rw [e, hr]
theorem betw_none {ls : List (List Int)} {x y : Int} {k : Nat} {l : List Int} (h : ls[k]? = some l) (hr : hit l x y = none) : betw ls x y (k + 1) = betw ls x y k := by
  have e : ls.getD k [] = l := by rw [List.getD_eq_getElem?_getD, h]; rfl
  show (match hit (ls.getD k []) x y with | some r => (r, (betw ls x y k).2 + 1) | none => betw ls x y k) = _
  rw [e, hr]
/-- A value that a row of ints can be read from. -/
def SeesI (w : World) (v : Value) (l : List Int) : Prop := ∃ a c, v = .slice a l.length c ∧ IntsAt w a l
theorem SeesI.same {w w' : World} {v : Value} {l : List Int} (h : SeesI w v l) (hb : ∀ b, v.ownBlock = some b → w'.heap[b]? = w.heap[b]?) : SeesI w' v l := by
  obtain ⟨a, c, rfl, hi⟩ := h
  refine ⟨a, c, rfl, fun j x hj => ?_⟩
  obtain ⟨b, o, rfl, hc⟩ := hi j x hj
  exact ⟨b, o, rfl, (World.cell?_of_block (a := ⟨b, o + j, none⟩) (hb b rfl)).trans hc⟩
/-- It lies in one of the lists us, or has been laid since w. -/
def From (us : List Value) (w : World) (v : Value) : Prop := ∀ b, v.ownBlock = some b → (∃ u ∈ us, u.ownBlock = some b) ∨ w.heap.size ≤ b
theorem SeesI.later {w w' : World} {v : Value} {l : List Int} (h : SeesI w v l) (hb : Below w.heap.size w w') : SeesI w' v l := by
  obtain ⟨a, c, e, hi⟩ := h
  exact ⟨a, c, e, hi.later hb⟩
end Ku

set_option maxRecDepth 100000 in
set_option maxHeartbeats 4000000 in
theorem kof_any (ao : Option Addr) (q c : Nat) (l : List Int) (d : Int) (w : World) (hq : l.length = q) (h : IntsAt w ao l) (hl : q ≤ 17592186044000) :
    Calls Try.prog 33 #[.slice ao q c, .int .i64 d] w fun e w' => ∃ v, e = .returned v ∧ OwnZ w' w.heap.size v (Ku.ofL l d q) ∧ Below w.heap.size w w' := by
  have HL := Nu.hid h
  have HQ := Nu.hid hq
  clear h hq
  go_enter Try.func33, Try.ntmps33
  go_wp2
  go_loopw [5, 6] (fun v cv wr => ∃ k : Nat, k ≤ q ∧ cv = .int .i64 (k : Int) ∧ OwnZ wr w.heap.size v (Ku.ofL l d k) ∧ Below w.heap.size w wr) (fun _ cv _ => q - (intOf cv).toNat)
  case atStart => exact ⟨0, Nat.zero_le _, rfl, OwnZ.nil _ _, Below.refl _ _⟩
  case round =>
    obtain ⟨k, hk, rfl, hown, hb⟩ := hrel
    have HOWN := Nu.hid hown
    have HB := Nu.hid hb
    have hs0 := hb.size
    have hwk : IntKind.i64.wrap ((k : Int) + 1) = (k : Int) + 1 := by rw [IntKind.wrap_i64]; omega
    by_cases hlt : k < q
    · have hk0 : (0 : Int) ≤ (k : Int) := by omega
      have hk1 : (k : Int) < (q : Int) := by omega
      obtain ⟨y, hy⟩ : ∃ y, l[k]? = some y := ⟨_, List.getElem?_eq_getElem (by rw [HQ.out]; omega)⟩
      obtain ⟨b, o, rfl, d0⟩ := (HL.out.later hb) k y hy
      have hgy := Ku.gI_at hy
      by_cases hyd : y = d
      · have t1 : (y == d) = true := by simp [hyd]
        have HN : Hid (Ku.ofL l d (k + 1) = Ku.ofL l d k ++ [(k : Int)]) := by
          show (if Ku.gI l k = d then _ else _) = _
          rw [if_pos (by rw [hgy]; exact hyd)]
        have hll : (Ku.ofL l d k).length ≤ 17592186044000 := by have := Ku.ofL_length l d k; omega
        clear hown hb hy hgy hyd
        go_wp2_with (at_builtin; refine wpList_push rfl _ _ rfl _ w.heap.size _ _ (k : Int) HOWN.out hs0 hll rfl rfl ?_; refine Hid.out ?_)
        refine Nu.hid ?_
        intro v' w3 hrow3 _ _ hb3
        have HROW3 := Nu.hid hrow3
        have HB3 := Nu.hid (HB.out.trans hb3)
        clear hrow3 hb3
        go_wp2
        go_roundw
        case rel => exact ⟨k + 1, by omega, by go_num, by rw [HN.out]; exact HROW3.out, HB3.out⟩
        case measure => simp [intOf]; omega
      · have t1 : (y == d) = false := by simp [hyd]
        have HN : Hid (Ku.ofL l d (k + 1) = Ku.ofL l d k) := by
          show (if Ku.gI l k = d then _ else _) = _
          rw [if_neg (by rw [hgy]; exact hyd)]
        clear hown hb hy hgy hyd
        go_wp2
        go_roundw
        case rel => exact ⟨k + 1, by omega, by go_num, by rw [HN.out]; exact HOWN.out, HB.out⟩
        case measure => simp [intOf]; omega
    · have hd : ¬ ((k : Int) < (q : Int)) := by omega
      obtain rfl : k = q := by omega
      clear hown hb
      go_wp2
      go_ret
      exact ⟨_, rfl, HOWN.out, HB.out⟩

/-- What between answers. -/
def Ku.BetwP (us : List Value) (ls : List (List Int)) (x y : Int) (w : World) (e : Ending) (w' : World) : Prop :=
  ∃ v, e = .returned (.tuple #[v, .bool ((((Ku.betw ls x y ls.length).2 : Nat) : Int) == 1)]) ∧ Ku.SeesI w' v (Ku.betw ls x y ls.length).1 ∧ Ku.From us w v ∧ Below w.heap.size w w'

set_option maxRecDepth 100000 in
set_option maxHeartbeats 8000000 in
theorem kbetween_any (B : Nat) (ao : Option Addr) (J c : Nat) (us : List Value) (ls : List (List Int)) (x y : Int) (w : World) (hJ : ls.length = J) (h : RowsZ w B (.slice ao J c) us ls) (hl : J ≤ 17592186044000)
    (hr : ∀ l ∈ ls, 1 ≤ l.length ∧ l.length ≤ 17592186044000) :
    Calls Try.prog 35 #[.slice ao J c, .int .i64 x, .int .i64 y] w (Ku.BetwP us ls x y w) := by
  have HRZ := Nu.hid h
  have HJ := Nu.hid hJ
  have HR := Nu.hid hr
  clear h hJ hr
  go_enter Try.func35, Try.ntmps35
  go_wp2
  go_loopw [8, 9, 10] (fun v nv cv wr => ∃ k : Nat, k ≤ J ∧ cv = .int .i64 (k : Int) ∧ nv = .int .i64 (((Ku.betw ls x y k).2 : Nat) : Int) ∧ Ku.SeesI wr v (Ku.betw ls x y k).1 ∧ Ku.From us w v ∧ Below w.heap.size w wr) (fun _ _ cv _ => J - (intOf cv).toNat)
  case atStart => exact ⟨0, Nat.zero_le _, rfl, rfl, ⟨none, 0, rfl, fun i p hp => by cases hp⟩, (fun b hb => by cases hb), Below.refl _ _⟩
  case round =>
    obtain ⟨k, hk, rfl, rfl, hsee, hfr, hb⟩ := hrel
    have HFR := Nu.hid hfr
    clear hfr
    obtain ⟨U, rfl⟩ : ∃ U, U = wr := ⟨wr, rfl⟩
    have HSEE := Nu.hid hsee
    have HB := Nu.hid hb
    have hs0 := hb.size
    have hwk : IntKind.i64.wrap ((k : Int) + 1) = (k : Int) + 1 := by rw [IntKind.wrap_i64]; omega
    obtain ⟨N, hN⟩ : ∃ N, (Ku.betw ls x y k).2 = N := ⟨_, rfl⟩
    have hNk : N ≤ k := by rw [← hN]; exact Ku.betw_le ls x y k
    have hwN : IntKind.i64.wrap ((N : Int) + 1) = (N : Int) + 1 := by rw [IntKind.wrap_i64]; omega
    have HN := Nu.hid hN
    rw [hN]
    by_cases hlt : k < J
    · have hk0 : (0 : Int) ≤ (k : Int) := by omega
      have hk1 : (k : Int) < (J : Int) := by omega
      obtain ⟨lr, hlr⟩ : ∃ lr, ls[k]? = some lr := ⟨_, List.getElem?_eq_getElem (by rw [HJ.out]; exact hlt)⟩
      have hrz1 := HRZ.out.later hb
      obtain ⟨u, hu⟩ := hrz1.at' hlr
      obtain ⟨gv, gc, hvg, cx⟩ := Ku.krow_at hrz1 hu
      rw [HJ.out] at hvg
      have hvo : ao = some ⟨gv, 0, none⟩ := by cases hvg; rfl
      obtain ⟨xa, xc, hxe, hxi, -⟩ := (hrz1.row k u lr hu hlr).form
      obtain ⟨Ln, hLn⟩ : ∃ Ln, lr.length = Ln := ⟨_, rfl⟩
      have hLb : 1 ≤ Ln ∧ Ln ≤ 17592186044000 := by rw [← hLn]; exact HR.out lr (List.mem_of_getElem? hlr)
      obtain ⟨hL1, hL2⟩ := hLb
      rw [hLn] at hxe
      subst hxe
      subst hvo
      obtain ⟨a, ha⟩ : ∃ a, lr[0]? = some a := ⟨_, List.getElem?_eq_getElem (by omega)⟩
      obtain ⟨z, hz⟩ : ∃ z, lr[Ln - 1]? = some z := ⟨_, List.getElem?_eq_getElem (by omega)⟩
      obtain ⟨b, o, hbo, e0⟩ := hxi 0 a ha
      obtain ⟨b', o', hbo', e1⟩ := hxi (Ln - 1) z hz
      rw [hbo] at hbo'
      cases hbo'
      subst hbo
      have hLi : (0 : Int) < (Ln : Int) := by omega
      have hwL : IntKind.i64.wrap ((Ln : Int) - 1) = ((Ln - 1 : Nat) : Int) := by rw [IntKind.wrap_i64]; omega
      have hL3 : (0 : Int) ≤ ((Ln - 1 : Nat) : Int) := by omega
      have hL4 : ((Ln - 1 : Nat) : Int) < (Ln : Int) := by omega
      have ga := Ku.gI_at ha
      have gz := Ku.gI_at hz
      have HXI := Nu.hid hxi
      have HF1 : Hid (Ku.From us w (.slice (some ⟨b, o, none⟩) Ln xc)) := fun b' hb' => .inl ⟨_, List.mem_of_getElem? hu, hb'⟩
      have HLR := Nu.hid hlr
      have HLN := Nu.hid hLn
      have HH : Hid (Ku.hit lr x y = if a = x ∧ z = y then some lr else if a = y ∧ z = x then some lr.reverse else none) := by
        refine Nu.hid ?_
        unfold Ku.hit
        rw [hLn, ga, gz]
      have HS : Hid (∀ r, Ku.hit lr x y = some r → Ku.betw ls x y (k + 1) = (r, N + 1)) := fun r h => by rw [Ku.betw_some HLR.out h, HN.out]
      have HNO : Hid (Ku.hit lr x y = none → Ku.betw ls x y (k + 1) = Ku.betw ls x y k) := fun h => Ku.betw_none HLR.out h
      simp only [Nat.add_zero] at e0
      clear hsee hb hlr hrz1 hu hvg hLn ha hz hxi ga gz hN
      by_cases c1 : a = x ∧ z = y
      · obtain ⟨c1, c2⟩ := c1
        have t1 : (a == x) = true := by simp [c1]
        have t2 : (z == y) = true := by simp [c2]
        have HX : Hid (Ku.betw ls x y (k + 1) = (lr, N + 1)) := HS.out _ (by rw [HH.out, if_pos ⟨c1, c2⟩])
        clear c1 c2
        go_wp2
        go_roundw
        case rel => exact ⟨k + 1, by omega, by go_num, by rw [HX.out]; go_num, by rw [HX.out]; exact ⟨_, _, by rw [HLN.out], HXI.out⟩, HF1.out, HB.out⟩
        case measure => simp [intOf]; omega
      · by_cases c3 : a = y ∧ z = x
        · have HX : Hid (Ku.betw ls x y (k + 1) = (lr.reverse, N + 1)) := HS.out _ (by rw [HH.out, if_neg c1, if_pos c3])
          have HT := Nu.hid (kturned_any (some ⟨b, o, none⟩) Ln xc lr U HLN.out HXI.out hL2)
          have t3 : (a == y) = true := by simp [c3.1]
          have t4 : (z == x) = true := by simp [c3.2]
          by_cases c4 : a = x
          · have t1 : (a == x) = true := by simp [c4]
            have t2 : (z == y) = false := beq_eq_false_iff_ne.2 fun h => c1 ⟨c4, h⟩
            clear c1 c3 c4
            go_wp2_with (go_at_call 48; refine HT.out.mono ?_; rintro e U2 ⟨v, rfl, ho, hb2⟩; refine Hid.out ?_)
            refine Nu.hid ?_
            obtain ⟨ya, yc, hye, hyi, -⟩ := ho.form
            have HY := Nu.hid hyi
            have HYE := Nu.hid hye
            have HF2 : Hid (Ku.From us w v) := fun b' hb' => .inr (Nat.le_trans hs0 (World.ownsRow.lt ho b' hb').1)
            have HB2 := Nu.hid (HB.out.trans (hb2.mono HB.out.size))
            clear ho hb2 hyi hye
            go_wp2
            go_roundw
            case rel => exact ⟨k + 1, by omega, by go_num, by rw [HX.out]; go_num, by rw [HX.out]; exact ⟨_, _, HYE.out, HY.out⟩, HF2.out, HB2.out⟩
            case measure => simp [intOf]; omega
          · have t1 : (a == x) = false := by simp [c4]
            clear c1 c3 c4
            go_wp2_with (go_at_call 48; refine HT.out.mono ?_; rintro e U2 ⟨v, rfl, ho, hb2⟩; refine Hid.out ?_)
            refine Nu.hid ?_
            obtain ⟨ya, yc, hye, hyi, -⟩ := ho.form
            have HY := Nu.hid hyi
            have HYE := Nu.hid hye
            have HF2 : Hid (Ku.From us w v) := fun b' hb' => .inr (Nat.le_trans hs0 (World.ownsRow.lt ho b' hb').1)
            have HB2 := Nu.hid (HB.out.trans (hb2.mono HB.out.size))
            clear ho hb2 hyi hye
            go_wp2
            go_roundw
            case rel => exact ⟨k + 1, by omega, by go_num, by rw [HX.out]; go_num, by rw [HX.out]; exact ⟨_, _, HYE.out, HY.out⟩, HF2.out, HB2.out⟩
            case measure => simp [intOf]; omega
        · have HX : Hid (Ku.betw ls x y (k + 1) = Ku.betw ls x y k) := HNO.out (by rw [HH.out, if_neg c1, if_neg c3])
          have HC1 := Nu.hid c1
          have HC3 := Nu.hid c3
          clear c1 c3
          by_cases c4 : a = x
          · have t1 : (a == x) = true := by simp [c4]
            have t2 : (z == y) = false := beq_eq_false_iff_ne.2 fun h => HC1.out ⟨c4, h⟩
            by_cases c5 : a = y
            · have t3 : (a == y) = true := by simp [c5]
              have t4 : (z == x) = false := beq_eq_false_iff_ne.2 fun h => HC3.out ⟨c5, h⟩
              clear c4 c5
              go_wp2
              go_roundw
              case rel => exact ⟨k + 1, by omega, by go_num, by rw [HX.out, HN.out], by rw [HX.out]; exact HSEE.out, HFR.out, HB.out⟩
              case measure => simp [intOf]; omega
            · have t3 : (a == y) = false := by simp [c5]
              clear c4 c5
              go_wp2
              go_roundw
              case rel => exact ⟨k + 1, by omega, by go_num, by rw [HX.out, HN.out], by rw [HX.out]; exact HSEE.out, HFR.out, HB.out⟩
              case measure => simp [intOf]; omega
          · have t1 : (a == x) = false := by simp [c4]
            by_cases c5 : a = y
            · have t3 : (a == y) = true := by simp [c5]
              have t4 : (z == x) = false := beq_eq_false_iff_ne.2 fun h => HC3.out ⟨c5, h⟩
              clear c4 c5
              go_wp2
              go_roundw
              case rel => exact ⟨k + 1, by omega, by go_num, by rw [HX.out, HN.out], by rw [HX.out]; exact HSEE.out, HFR.out, HB.out⟩
              case measure => simp [intOf]; omega
            · have t3 : (a == y) = false := by simp [c5]
              clear c4 c5
              go_wp2
              go_roundw
              case rel => exact ⟨k + 1, by omega, by go_num, by rw [HX.out, HN.out], by rw [HX.out]; exact HSEE.out, HFR.out, HB.out⟩
              case measure => simp [intOf]; omega
    · have hd : ¬ ((k : Int) < (J : Int)) := by omega
      obtain rfl : k = J := by omega
      clear hsee hb hN
      go_wp2
      go_ret2
      exact ⟨_, by rw [HJ.out, HN.out]; rfl, by rw [HJ.out]; exact HSEE.out, HFR.out, HB.out⟩

end Go.Proofs.Ytdhaaodalchpkaa
