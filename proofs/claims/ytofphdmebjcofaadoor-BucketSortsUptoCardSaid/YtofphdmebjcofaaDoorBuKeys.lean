/-
  keysOf, at ints: by place the item's key.
-/
import Derived.Test.YtofphdmebjcofaaDoorBuRk
import Derived.Shelf.Abstract
namespace Go.Proofs.YtofphdmebjcofaaDoor
open Go.RowKit

theorem run_equalIn_func_nil {P : Program} (w : World) (d : Nat) (t : TypeId) (kf : Nat) (bs : Array Value) {ps rs : Array TypeId} {vd : Bool} (h : P.underlying t = some (.func ps rs vd)) :
    (Op.equalIn (d + 1) t (.func (.func kf) #[] bs) .nilFunc).run P w = .ok false w := by
  simp [Op.equalIn, run_underlying h]

/-- A function is not nil. -/
theorem run_eql_func_nil {P : Program} (w : World) (t : TypeId) (kf : Nat) (bs : Array Value) {ps rs : Array TypeId} {vd : Bool} (h : P.underlying t = some (.func ps rs vd)) : (binOp .eql t (.func (.func kf) #[] bs) .nilFunc).run P w = .ok (.bool false) w := by
  simp only [binOp]
  simp [Op.equal, Op.maxDepth, run_equalIn_func_nil w 9999 t kf bs h]

def KeysPost (most : Int) (ks : List Int) (w : World) (e : Ending) (w' : World) : Prop :=
  ((Bu.fault most ks ≠ 0 ∧ e = .returned (.tuple #[.slice none 0 0, .int .i64 (Bu.fault most ks)])) ∨
   (Bu.fault most ks = 0 ∧ ∃ g : Nat, e = .returned (.tuple #[.slice (some ⟨g, 0, none⟩) ks.length ks.length, .int .i64 0]) ∧ w.heap.size ≤ g ∧ IntsBlk w' g ks)) ∧ Below w.heap.size w w'

set_option maxRecDepth 100000 in
set_option maxHeartbeats 8000000 in
theorem keysint_any (kf : Nat) (bs : Array Value) (key : Int → Int) (most : Int) (ao : Option Addr) (ca n : Nat) (xs ks : List Int) (w : World) (hn : xs.length = n) (hl : n ≤ 17592186043904) (ha : IntsAt w ao xs) (hks : ks = xs.map key)
    (hent : ∀ (args : Array Value) (w : World), (callFunc kf args).run Tryd.prog w = .ok (.enter kf args) w) (hcall : ∀ W x, Below w.heap.size w W → x ∈ xs → Calls Tryd.prog kf (#[.int .i64 x] ++ bs) W fun e w' => e = .returned (.int .i64 (key x)) ∧ Below W.heap.size W w') :
    Calls Tryd.prog 19 #[.slice ao n ca, .func (.func kf) #[] bs, .int .i64 most] w (KeysPost most ks w) := by
  obtain ⟨i0, hi, hz0, hz1, hz2⟩ := info_parts Tryd.infoNum
  have HA := Nu.hid ha
  have HN := Nu.hid hn
  have HCALL := Nu.hid hcall
  have HKS := Nu.hid hks
  have hnil := fun w => run_eql_func_nil (P := Tryd.prog) w 51 kf bs Tryd.underlying51
  have HLEN : Hid (ks.length = n) := by show _ = _; rw [hks, List.length_map, hn]
  clear ha hn hcall hks
  by_cases h1 : most < 0
  · have HF : Hid (Bu.fault most ks = 2) := Bu.fault_two (.inl h1)
    go_enter Tryd.func19, Tryd.ntmps19
    go_wp2
    go_ret2
    exact ⟨.inl ⟨by rw [HF.out]; decide, by rw [HF.out]; rfl⟩, Below.refl _ _⟩
  by_cases h2 : 4194304 < most
  · have HF : Hid (Bu.fault most ks = 2) := Bu.fault_two (.inr h2)
    go_enter Tryd.func19, Tryd.ntmps19
    go_wp2
    go_ret2
    exact ⟨.inl ⟨by rw [HF.out]; decide, by rw [HF.out]; rfl⟩, Below.refl _ _⟩
  have HR12 : Hid (¬ (most < 0 ∨ 4194304 < most)) := by show ¬ _; omega
  go_enter Tryd.func19, Tryd.ntmps19
  go_wp2_with (at_make; refine wpList_make_full _ rfl _ _ 22 rfl w.heap.size 3 i0 (.int .i64 0) 1 Tryd.underlying22 hi hz0 hz1 _ _ _ _ n rfl rfl rfl rfl (by rw [hz2]; omega) (by unfold maxLen; omega) (Nat.le_refl _) ?_; refine Hid.out ?_)
  refine Nu.hid ?_
  intro w2 hrow hg2
  rw [made_zeros] at hrow
  have HI2 := Nu.hid (ints_of_row hrow)
  have HB2 : Hid (Below w.heap.size w w2) := (Below.refl _ _).grown hg2 (Nat.le_refl _) (fun j hj => by cases hj)
  clear hrow hg2
  go_wp2
  go_loopw [27] (fun c wr => ∃ (i : Nat) (R : List Int), i ≤ n ∧ c = .int .i64 i ∧ R.length = n ∧ (∀ j, j < i → R[j]? = ks[j]?) ∧ (ks.take i).any (Bu.bad most) = false ∧ IntsBlk wr w.heap.size R ∧ Below w.heap.size w wr) (fun c _ => n - (intOf c).toNat)
  case atStart => exact ⟨0, _, Nat.zero_le _, rfl, by simp, fun j hj => by omega, by simp, HI2.out, HB2.out⟩
  case round =>
    obtain ⟨i, R, hin, rfl, hRl, hR, hany, hiR, hb⟩ := hrel
    have HR := Nu.hid hR
    have HIR := Nu.hid hiR
    have HB := Nu.hid hb
    have HANY := Nu.hid hany
    by_cases hlt : i < n
    · have hk0 : (0 : Int) ≤ (i : Int) := by omega
      have hk1 : (i : Int) < (n : Int) := by omega
      obtain ⟨x, hx⟩ : ∃ x, xs[i]? = some x := ⟨_, List.getElem?_eq_getElem (by have := HN.out; omega)⟩
      have hkx : ks[i]? = some (key x) := by rw [HKS.out, List.getElem?_map, hx]; rfl
      obtain ⟨b, o, rfl, c0⟩ := (HA.out.later HB.out) i _ hx
      have HC := Nu.hid (HCALL.out wr x hb (List.mem_of_getElem? hx))
      obtain ⟨y, hy⟩ : ∃ y, R[i]? = some y := ⟨_, List.getElem?_eq_getElem (by omega)⟩
      generalize key x = z at hkx HC
      have HKX := Nu.hid hkx
      have HY := Nu.hid hy
      clear hR hiR hb hany hx hkx hy
      go_wp2_with (go_at_fn kf; refine HC.out.mono ?_; rintro e w3 ⟨rfl, hb3⟩; refine Hid.out ?_)
      refine Nu.hid ?_
      have HB3 := Nu.hid (HB.out.trans (hb3.mono HB.out.size))
      have hiR3 := HIR.out.later hb3
      clear hb3
      by_cases q1 : z < 0
      · have HF : Hid (Bu.fault most ks = 60) := Bu.fault_key HR12.out (Bu.any_of HKX.out (Bu.bad_yes (.inl q1)))
        clear hiR3
        go_wp2
        go_ret2
        exact ⟨.inl ⟨by rw [HF.out]; decide, by rw [HF.out]; rfl⟩, HB3.out⟩
      by_cases q2 : most < z
      · have HF : Hid (Bu.fault most ks = 60) := Bu.fault_key HR12.out (Bu.any_of HKX.out (Bu.bad_yes (.inr q2)))
        clear hiR3
        go_wp2
        go_ret2
        exact ⟨.inl ⟨by rw [HF.out]; decide, by rw [HF.out]; rfl⟩, HB3.out⟩
      have c2 := hiR3.cell HY.out
      have f2 := hiR3.free i
      have HNEXT := Nu.hid (Bu.any_take_succ HKX.out HANY.out (Bu.bad_no (by omega)))
      have HR3 := Nu.hid (hiR3.set i z)
      have HB4 := Nu.hid (HB3.out.setCell (p := ⟨w.heap.size, i, none⟩) (Nat.le_refl _) (.int .i64 z))
      have HR2 := Nu.hid (take_set_succ (by rw [hRl, HLEN.out]) HR.out HKX.out)
      have HRL : Hid ((R.set i z).length = n) := by show _ = _; simp [hRl]
      clear hiR3
      go_wp2
      go_roundw
      case rel => exact ⟨i + 1, _, by omega, by go_num, HRL.out, HR2.out, HNEXT.out, HR3.out, HB4.out⟩
      case measure => simp [intOf]; omega
    · have hd : ¬ ((i : Int) < (n : Int)) := by omega
      obtain rfl : i = n := by omega
      clear hR hiR hb hany
      go_wp2
      go_ret2
      have hks : ks.take i = ks := List.take_of_length_le (by have := HLEN.out; omega)
      have e : R = ks := List.ext_getElem? fun j => by
        by_cases hj : j < i
        · exact HR.out j hj
        · rw [List.getElem?_eq_none (by omega), List.getElem?_eq_none (by have := HLEN.out; omega)]
      have hany := HANY.out
      rw [hks] at hany
      refine ⟨.inr ⟨Bu.fault_none HR12.out hany, w.heap.size, ?_, Nat.le_refl _, ?_⟩, HB.out⟩
      · rw [HLEN.out]; rfl
      · rw [← e]; exact HIR.out

end Go.Proofs.YtofphdmebjcofaaDoor
