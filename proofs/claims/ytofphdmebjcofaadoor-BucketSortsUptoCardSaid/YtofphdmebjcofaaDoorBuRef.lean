/-
  Ranks; the document's own Fault, Ranks, Group.
-/
import Derived.Test.YtofphdmebjcofaaDoorBuLst
import Derived.Maps.AppendAt
import Derived.Sort.Grow
namespace Go.Proofs.YtofphdmebjcofaaDoor
open Go.RowKit Go.Sort

theorem itself_enters : ∀ (args : Array Value) (w : World), (callFunc 20 args).run Tryd.prog w = .ok (.enter 20 args) w := enters_of Tryd.func20 (by kernel_rfl) rfl

theorem itself_any (x : Int) (w : World) : Calls Tryd.prog 20 (#[.int .i64 x] ++ #[]) w fun e w' => e = .returned (.int .i64 x) ∧ Below w.heap.size w w' := by
  show Calls Tryd.prog 20 #[.int .i64 x] w _
  go_enter Tryd.func20, Tryd.ntmps20
  go_wp2
  go_ret
  exact ⟨rfl, Below.refl _ _⟩

theorem own_keys_any (most : Int) (ao : Option Addr) (ca n : Nat) (ks : List Int) (w : World) (hl : n ≤ 17592186043904) (ha : Lst w ao n ca ks) :
    Calls Tryd.prog 19 #[.slice ao n ca, .func (.func 20) #[] #[], .int .i64 most] w (KeysPost most ks w) :=
  keysint_any 20 #[] (fun x => x) most ao ca n ks ks w ha.len hl ha.ints (by simp) itself_enters (fun W x _ _ => itself_any x W)

def RanksPost (most : Int) (ks : List Int) (w : World) (e : Ending) (w' : World) : Prop :=
  ((Bu.fault most ks ≠ 0 ∧ e = .returned (.tuple #[.slice none 0 0, .int .i64 (Bu.fault most ks)])) ∨
   (Bu.fault most ks = 0 ∧ ∃ g : Nat, e = .returned (.tuple #[.slice (some ⟨g, 0, none⟩) ks.length ks.length, .int .i64 0]) ∧ w.heap.size ≤ g ∧ IntsBlk w' g (Bu.ranks ks))) ∧ Below w.heap.size w w'

set_option maxRecDepth 100000 in
set_option maxHeartbeats 8000000 in
theorem branks_any (most : Int) (ao : Option Addr) (ca n : Nat) (ks : List Int) (w : World) (hl : n ≤ 17592186043904) (ha : Lst w ao n ca ks) :
    Calls Tryd.prog 10 #[.slice ao n ca, .int .i64 most] w (RanksPost most ks w) := by
  have HN := Nu.hid ha.len
  have HK1 := Nu.hid (own_keys_any most ao ca n ks w hl ha)
  clear ha
  go_enter Tryd.func10, Tryd.ntmps10
  by_cases hf : Bu.fault most ks = 0
  · have HF := Nu.hid hf
    have HFEW := Nu.hid (fault_few hf).2.2.2
    have HK2 : Hid (Calls Tryd.prog 19 #[.slice ao n ca, .func (.func 20) #[] #[], .int .i64 most] w fun e w' => ∃ g : Nat, e = .returned (.tuple #[.slice (some ⟨g, 0, none⟩) n n, .int .i64 0]) ∧ w.heap.size ≤ g ∧ IntsBlk w' g ks ∧ Below w.heap.size w w') := HK1.out.mono (by
      rintro e w' ⟨⟨h1, _⟩ | ⟨_, g, h2, h3, h4⟩, hb⟩
      · exact absurd HF.out h1
      · rw [HN.out] at h2
        exact ⟨g, h2, h3, h4, hb⟩)
    clear HK1 hf
    go_wp2_with (go_at_call 19; refine HK2.out.mono ?_; rintro e w2 ⟨g, rfl, hg, hkb, hb2⟩; have HB2 := Nu.hid hb2; have HRK := Nu.hid (ranks_any (some ⟨g, 0, none⟩) n n ks w2 HN.out hl hkb.at HFEW.out); clear hkb hb2 hg; refine Hid.out ?_)
    refine Nu.hid ?_
    clear HK2
    go_wp2_with (go_at_call 18; refine HRK.out.mono ?_; rintro e w4 ⟨gr, rfl, hgr, hrb, hb4⟩; rw [HN.out]; have HRB := Nu.hid hrb; have HB4 := Nu.hid (HB2.out.trans (hb4.mono HB2.out.size)); have HGR := Nu.hid (Nat.le_trans HB2.out.size hgr); clear hrb hb4 hgr; refine Hid.out ?_)
    refine Nu.hid ?_
    go_wp2
    go_ret2
    exact ⟨.inr ⟨HF.out, gr, by rw [HN.out]; rfl, HGR.out, HRB.out⟩, HB4.out⟩
  · have HF := Nu.hid hf
    have HK2 : Hid (Calls Tryd.prog 19 #[.slice ao n ca, .func (.func 20) #[] #[], .int .i64 most] w fun e w' => e = .returned (.tuple #[.slice none 0 0, .int .i64 (Bu.fault most ks)]) ∧ Below w.heap.size w w') := HK1.out.mono (by
      rintro e w' ⟨⟨_, h1⟩ | ⟨h1, _⟩, hb⟩
      · exact ⟨h1, hb⟩
      · exact absurd h1 HF.out)
    obtain ⟨q, hq⟩ : ∃ q, Bu.fault most ks = q := ⟨_, rfl⟩
    rw [hq] at HK2 hf
    have j0 : (q != 0) = true := by simp [hf]
    have HQ := Nu.hid hq
    clear HK1 hq
    go_wp2_with (go_at_call 19; refine HK2.out.mono ?_; rintro e w2 ⟨rfl, hb2⟩; have HB2 := Nu.hid hb2; clear hb2; refine Hid.out ?_)
    refine Nu.hid ?_
    go_wp2
    go_ret2
    exact ⟨.inl ⟨HF.out, by rw [HQ.out]; rfl⟩, HB2.out⟩

/-- How many keys are looked at until the first that may not be. -/
def Bu.firstBad (most : Int) : List Int → Nat
  | [] => 0
  | z :: r => if Bu.bad most z = true then 0 else Bu.firstBad most r + 1

theorem Bu.firstBad_at {most : Int} : ∀ {ks : List Int} {i : Nat} {x : Int}, ks[i]? = some x → (ks.take i).any (Bu.bad most) = false → Bu.bad most x = true → Bu.firstBad most ks = i := by
  intro ks
  induction ks with
  | nil => intro i x h; simp at h
  | cons z r ih =>
    intro i x h h1 h2
    cases i with
    | zero =>
      simp at h
      subst h
      unfold Bu.firstBad
      rw [if_pos h2]
    | succ i =>
      simp at h h1
      unfold Bu.firstBad
      rw [if_neg (by rw [h1.1]; decide), ih h (by simpa using h1.2) h2]

def Bu.seen (most : Int) (ks : List Int) : Nat := if most < 0 ∨ 4194304 < most then 0 else if ks.any (Bu.bad most) then Bu.firstBad most ks + 1 else ks.length

set_option maxRecDepth 100000 in
set_option maxHeartbeats 8000000 in
theorem fault_any (most : Int) (ao : Option Addr) (ca n : Nat) (ks : List Int) (w : World) (hl : n ≤ 17592186043904) (ha : Lst w ao n ca ks) :
    Calls Tryd.prog 8 #[.slice ao n ca, .int .i64 most] w fun e w' => e = .returned (.tuple #[.int .i64 (Bu.fault most ks), .int .i64 (Bu.seen most ks : Int)]) ∧ w' = w := by
  have HA := Nu.hid ha.ints
  have HN := Nu.hid ha.len
  clear ha
  by_cases h1 : most < 0
  · have HF : Hid (Bu.fault most ks = 2) := Bu.fault_two (.inl h1)
    have HS : Hid (Bu.seen most ks = 0) := if_pos (.inl h1)
    go_enter Tryd.func8, Tryd.ntmps8
    go_wp2
    go_ret2
    exact ⟨by rw [HF.out, HS.out]; rfl, rfl⟩
  by_cases h2 : 4194304 < most
  · have HF : Hid (Bu.fault most ks = 2) := Bu.fault_two (.inr h2)
    have HS : Hid (Bu.seen most ks = 0) := if_pos (.inr h2)
    go_enter Tryd.func8, Tryd.ntmps8
    go_wp2
    go_ret2
    exact ⟨by rw [HF.out, HS.out]; rfl, rfl⟩
  have HR12 : Hid (¬ (most < 0 ∨ 4194304 < most)) := by show ¬ _; omega
  go_enter Tryd.func8, Tryd.ntmps8
  go_wp2
  go_loopw [6] (fun c wr => ∃ i : Nat, i ≤ n ∧ c = .int .i64 i ∧ (ks.take i).any (Bu.bad most) = false ∧ wr = w) (fun c _ => n - (intOf c).toNat)
  case atStart => exact ⟨0, Nat.zero_le _, rfl, by simp, rfl⟩
  case round =>
    obtain ⟨i, hin, rfl, hany, rfl⟩ := hrel
    have HANY := Nu.hid hany
    clear hany
    by_cases hlt : i < n
    · have hk0 : (0 : Int) ≤ (i : Int) := by omega
      have hk1 : (i : Int) < (n : Int) := by omega
      obtain ⟨z, hx⟩ : ∃ x, ks[i]? = some x := ⟨_, List.getElem?_eq_getElem (by have := HN.out; omega)⟩
      obtain ⟨b, o, rfl, c0⟩ := HA.out i _ hx
      have HX := Nu.hid hx
      clear hx
      by_cases q : z < 0 ∨ most < z
      · have hb := Bu.any_of HX.out (Bu.bad_yes q)
        have HF : Hid (Bu.fault most ks = 60) := Bu.fault_key HR12.out hb
        have HS : Hid (Bu.seen most ks = i + 1) := by
          show _ = _
          unfold Bu.seen
          rw [if_neg HR12.out, if_pos hb, Bu.firstBad_at HX.out HANY.out (Bu.bad_yes q)]
        clear hb
        by_cases q1 : z < 0
        · go_wp2
          go_ret2
          exact ⟨by rw [HF.out, HS.out]; go_num, rfl⟩
        · have q2 : most < z := by omega
          go_wp2
          go_ret2
          exact ⟨by rw [HF.out, HS.out]; go_num, rfl⟩
      · have q1 : ¬ z < 0 := by omega
        have q2 : ¬ most < z := by omega
        have HNEXT := Nu.hid (Bu.any_take_succ HX.out HANY.out (Bu.bad_no q))
        go_wp2
        go_roundw
        case rel => exact ⟨i + 1, by omega, by go_num, HNEXT.out, trivial⟩
        case measure => simp [intOf]; omega
    · have hd : ¬ ((i : Int) < (n : Int)) := by omega
      obtain rfl : i = n := by omega
      have hks : ks.take i = ks := List.take_of_length_le (by have := HN.out; omega)
      have hany := HANY.out
      rw [hks] at hany
      have HF : Hid (Bu.fault most ks = 0) := Bu.fault_none HR12.out hany
      have HS : Hid (Bu.seen most ks = i) := by
        show _ = _
        unfold Bu.seen
        rw [if_neg HR12.out, hany]
        exact HN.out
      clear hany hks
      go_wp2
      go_ret2
      exact ⟨by rw [HF.out, HS.out]; rfl, rfl⟩

/-- 'append(v, z)', v a list of one's own. -/
theorem wpList_push {ops : Array Oper} {rest : List Oper} {o : Oper} {a : Act} {Q : Exit → Act → World → Prop} (hgd : o.guard = none) (s x : Operand)
    (ho : o.op = .call { callee := .builtin .append, args := #[s, x], argTypes := #[22, 22] }) (W : World) (B : Nat) (v : Value) (l : List Int) (z : Int) (hown : OwnZ W B v l)
    (hB : B ≤ W.heap.size) (hl : l.length ≤ 17592186044000) (hs : a.eval s = v) (hx : a.eval x = .slice (some ⟨W.heap.size, 0, none⟩) 1 1)
    (h : ∀ v' w', OwnZ w' B v' (l ++ [z]) → (W.alloc (.cells #[.int .i64 z] 3)).grownBy w' v.ownBlock → (v'.ownBlock = v.ownBlock ∨ v'.ownBlock = some (W.heap.size + 1)) → Below B W w' → wpList Tryd.prog ops Q rest (a.put o.dst v') w') :
    wpList Tryd.prog ops Q (o :: rest) a (W.alloc (.cells #[.int .i64 z] 3)) := by
  obtain ⟨i0, hi, hz0, hz1, hz2⟩ := info_parts Tryd.infoNum
  have hb0 : Below B W (W.alloc (.cells #[.int .i64 z] 3)) := (Below.refl _ _).alloc hB _
  refine wpList_append_own_at _ hgd s x 22 ho B 3 i0 (.int .i64 0) 1 8 Tryd.underlying22 hi hz0 hz1 hz2 rfl (by decide) _ _ _ hs (World.ownsRow.alloc hown _) ⟨W.heap.size, 0, none⟩ 1 1 [.int .i64 z] hx rfl (cell_one_new _ _ _) (by simp [Value.oneCell']) (by unfold maxLen; omega) (by omega) (by simp; omega) ?_
  intro v' w' hown' hg _ hat
  have ho' : OwnZ w' B v' (l ++ [z]) := by
    unfold OwnZ
    rw [List.length_append, List.map_append]
    exact hown'
  have hoB : ∀ b, v.ownBlock = some b → B ≤ b := fun b hb => (World.ownsRow.lt hown b hb).1
  refine h v' w' ho' hg (by simpa using hat) (hb0.grown hg (by simp; omega) hoB)

end Go.Proofs.YtofphdmebjcofaaDoor
