/-
  What BucketOwn wants beside: answers as lists of one's own, mark, lists under stores.
-/
import Derived.Test.YtofphdmebjcofaaBuLook
import Derived.Test.YtofphdmebjcofaaBuSort
import Derived.Test.YtofphdmebjcofaaBuRef2
import Derived.Test.YtofphdmebjcofaaCoKeep
import Derived.Test.YtofphdmebjcofaaBuStab
namespace Go.Proofs.Ytofphdmebjcofaa
open Go.RowKit Go.Sort

theorem IntsBlk.ownZ {w : World} {B g n : Nat} {l : List Int} (h : IntsBlk w g l) (hB : B ≤ g) (hl : l.length = n) (hm : n ≤ 17592186043904) : OwnZ w B (.slice (some ⟨g, 0, none⟩) n n) l := by
  subst hl
  refine ⟨by simp, .inr ⟨g, _, _, rfl, hB, h, Nat.le_refl _, by unfold maxLen; omega, by simp, ?_⟩⟩
  rw [List.take_of_length_le (by simp)]

/-- The ranks, or nothing. -/
def Bu.rs (most : Int) (ks : List Int) : List Int := if Bu.fault most ks = 0 then Bu.ranks ks else []
/-- The groups, or nothing. -/
def Bu.gls (most : Int) (ks : List Int) : List (List Int) := if Bu.fault most ks = 0 then Bu.groups ks (most + 1).toNat else []

theorem Bu.rs_length (most : Int) (ks : List Int) : (Bu.rs most ks).length ≤ ks.length := by
  unfold Bu.rs
  split
  · rw [Bu.ranks_length]; exact Nat.le_refl _
  · simp

theorem Bu.gls_length {most : Int} (h : most ≤ 1000) (ks : List Int) : (Bu.gls most ks).length ≤ 1001 := by
  unfold Bu.gls
  split
  · rw [Bu.groups_length]; omega
  · simp

theorem Bu.gls_at {most : Int} {ks : List Int} {k : Nat} {l : List Int} (h : (Bu.gls most ks)[k]? = some l) : l = Bu.grp ks (k : Int) := by
  unfold Bu.gls at h
  split at h
  · have hk := (List.getElem?_eq_some_iff.1 h).1
    rw [Bu.groups_length] at hk
    rw [Bu.groups_at ks hk] at h
    exact (Option.some.inj h).symm
  · simp at h

theorem rranks_own (most : Int) (ao : Option Addr) (ca n : Nat) (ks : List Int) (w : World) (hl : n ≤ 17592186043904) (ha : Lst w ao n ca ks) :
    Calls Try.prog 9 #[.slice ao n ca, .int .i64 most] w fun e w' => ∃ v, e = .returned (.tuple #[v, .int .i64 (Bu.fault most ks)]) ∧ OwnZ w' w.heap.size v (Bu.rs most ks) ∧ Below w.heap.size w w' :=
  (rranks_any most ao ca n ks w hl ha).mono (by
    rintro e w' ⟨⟨h1, rfl⟩ | ⟨h1, v, rfl, h2⟩, hb⟩
    · unfold Bu.rs
      rw [if_neg h1]
      exact ⟨_, rfl, OwnZ.nil _ _, hb⟩
    · unfold Bu.rs
      rw [if_pos h1, h1]
      exact ⟨v, rfl, h2, hb⟩)

theorem branks_own (most : Int) (ao : Option Addr) (ca n : Nat) (ks : List Int) (w : World) (hl : n ≤ 17592186043904) (ha : Lst w ao n ca ks) :
    Calls Try.prog 10 #[.slice ao n ca, .int .i64 most] w fun e w' => ∃ v, e = .returned (.tuple #[v, .int .i64 (Bu.fault most ks)]) ∧ OwnZ w' w.heap.size v (Bu.rs most ks) ∧ Below w.heap.size w w' :=
  (branks_any most ao ca n ks w hl ha).mono (by
    rintro e w' ⟨⟨h1, rfl⟩ | ⟨h1, g, rfl, hg, h2⟩, hb⟩
    · unfold Bu.rs
      rw [if_neg h1]
      exact ⟨_, rfl, OwnZ.nil _ _, hb⟩
    · unfold Bu.rs
      rw [if_pos h1, h1]
      exact ⟨_, rfl, h2.ownZ hg (Bu.ranks_length ks) (by rw [ha.len]; exact hl), hb⟩)

theorem group_own (most : Int) (ao : Option Addr) (ca n : Nat) (ks : List Int) (w : World) (hl : n ≤ 17592186043904) (ha : Lst w ao n ca ks) :
    Calls Try.prog 14 #[.slice ao n ca, .int .i64 most] w fun e w' => ∃ v vs, e = .returned (.tuple #[v, .int .i64 (Bu.fault most ks)]) ∧ RowsZ w' w.heap.size v vs (Bu.gls most ks) ∧ Below w.heap.size w w' :=
  (group_any most ao ca n ks w hl ha).mono (by
    rintro e w' ⟨⟨h1, rfl⟩ | ⟨h1, v, vs, rfl, h2⟩, hb⟩
    · unfold Bu.gls
      rw [if_neg h1]
      exact ⟨_, [], rfl, RowsZ.nil _ _, hb⟩
    · unfold Bu.gls
      rw [if_pos h1, h1]
      exact ⟨v, vs, rfl, h2, hb⟩)

theorem own1_enters : ∀ (args : Array Value) (w : World), (callFunc 18 args).run Try.prog w = .ok (.enter 18 args) w := enters_of Try.func18 (by kernel_rfl) rfl

theorem own1_any (x : Int) (w : World) : Calls Try.prog 18 (#[.int .i64 x] ++ #[]) w fun e w' => e = .returned (.int .i64 x) ∧ Below w.heap.size w w' := by
  show Calls Try.prog 18 #[.int .i64 x] w _
  go_enter Try.func18, Try.ntmps18
  go_wp2
  go_ret
  exact ⟨rfl, Below.refl _ _⟩

theorem sort_own (most : Int) (ao : Option Addr) (ca n : Nat) (ks : List Int) (w : World) (hl : n ≤ 17592186043904) (ha : Lst w ao n ca ks) :
    Calls Try.prog 12 #[.slice ao n ca, .func (.func 18) #[] #[], .int .i64 most] w fun e w' => ∃ v l, e = .returned (.tuple #[v, .int .i64 (Bu.fault most ks)]) ∧ OwnZ w' w.heap.size v l ∧ l.length ≤ n ∧ Below w.heap.size w w' :=
  (sortint_any 18 #[] (fun x => x) most ao ca n ks ks w hl ha (by simp) own1_enters (fun W x _ _ => own1_any x W)).mono (by
    rintro e w' ⟨⟨h1, rfl⟩ | ⟨h1, g, S, rfl, hg, h2, h3⟩, hb⟩
    · exact ⟨_, [], rfl, OwnZ.nil _ _, by simp, hb⟩
    · rw [h1]
      exact ⟨_, S, rfl, h2.ownZ hg h3.len (by rw [ha.len]; exact hl), by rw [h3.len, ha.len]; exact Nat.le_refl _, hb⟩)

theorem Wrote.grown {S : Nat → Prop} {w V V' : World} (h : Wrote S w V) {r : Option Nat} (hg : V.grownBy V' r) (hr : ∀ b, r = some b → b < w.heap.size → S b) : Wrote S w V' :=
  ⟨hg.os.trans h.os, hg.tape.trans h.tape, hg.output.trans h.output, Nat.le_trans h.size hg.size, fun b hb hn => (hg.block b (Nat.lt_of_lt_of_le hb h.size) (fun e => hn (hr b e.symm hb))).trans (h.block b hb hn)⟩

theorem Lst.wrote {S : Nat → Prop} {w w' : World} {ao : Option Addr} {n ca : Nat} {l : List Int} (h : Lst w ao n ca l) (hw : Wrote S w w') (hS : ∀ x, ao = some x → ¬ S x.block) : Lst w' ao n ca l := by
  refine ⟨h.len, fun j z hj => ?_, h.none⟩
  obtain ⟨b, o, e, hc⟩ := h.ints j z hj
  refine ⟨b, o, e, ?_⟩
  rw [← hc]
  simp only [World.cell?]
  rw [hw.block b (block_lt_of_cell hc) (hS _ e)]

/-- Row k, or new memory, is written; row k reads as before. -/
theorem RowsZ.after {V V' : World} {B S1 k : Nat} {v x : Value} {vs : List Value} {ls : List (List Int)} {l : List Int} (h : RowsZ V B v vs ls) (hx : vs[k]? = some x) (hl : ls[k]? = some l) {r : Option Nat} (hg : V.grownBy V' r) (hr : ∀ b, r = some b → (x.ownBlock = some b ∨ S1 ≤ b)) (hold : ∀ b, (v.ownBlock = some b ∨ inV vs b) → b < S1) (hrow : OwnZ V' B x l) : RowsZ V' B v vs ls := by
  have hsame : ∀ b, b < V.heap.size → x.ownBlock ≠ some b → b < S1 → V'.heap[b]? = V.heap[b]? := fun b hb h1 h2 => hg.block b hb (fun e => by
    rcases hr b e.symm with h3 | h3
    · exact h1 h3
    · omega)
  refine ⟨h.len, row_same h.outer fun b hb _ hlt => hsame b hlt (fun e => h.far k x b hx e hb) (hold b (.inl hb)), fun u y q hy hq => ?_, h.apart, h.far⟩
  by_cases e : k = u
  · subst e
    rw [hx] at hy
    rw [hl] at hq
    cases hy
    cases hq
    exact hrow
  · exact (h.row u y q hy hq).same fun b hb hlt => hsame b hlt (fun e2 => h.apart k u x y b e hx hy e2 hb) (hold b (.inr ⟨u, y, hy, hb⟩))

theorem row_at' {w : World} {B : Nat} {v : Value} {vs : List Value} {ls : List (List Int)} (h : RowsZ w B v vs ls) {k : Nat} {x : Value} (hx : vs[k]? = some x) : ∃ g c, v = .slice (some ⟨g, 0, none⟩) ls.length c ∧ w.cell? ⟨g, k, none⟩ = some x := by
  have hk := (List.getElem?_eq_some_iff.1 hx).1
  have hl := h.len
  rcases h.outer.2 with ⟨_, h0⟩ | ⟨g, c, cur, e, _⟩
  · omega
  · refine ⟨g, c, e, ?_⟩
    have := World.ownsRow.cells h.outer (g := g) (by rw [e]; rfl) k x hx
    have ea : ((⟨g, 0, none⟩ : Addr).add k) = ⟨g, k, none⟩ := by
      by_cases h0 : k = 0 <;> simp [Addr.add, h0]
    rw [ea] at this
    exact this

theorem rows_blocks {w : World} {B : Nat} {v : Value} {vs : List Value} {ls : List (List Int)} (h : RowsZ w B v vs ls) : ∀ b, (v.ownBlock = some b ∨ inV vs b) → B ≤ b ∧ b < w.heap.size := fun b hb => by
  rcases hb with hb | ⟨u, x, hx, hb⟩
  · exact World.ownsRow.lt h.outer b hb
  · obtain ⟨l, hl⟩ := h.at hx
    exact World.ownsRow.lt (h.row u x l hx hl) b hb

theorem rows_shape {w : World} {B : Nat} {v : Value} {vs : List Value} {ls : List (List Int)} (h : RowsZ w B v vs ls) : ∃ ao c, v = .slice ao ls.length c := by
  rcases h.outer.2 with ⟨rfl, h0⟩ | ⟨g, cap, cur, rfl, _⟩
  · exact ⟨none, 0, by rw [h0]⟩
  · exact ⟨_, cap, rfl⟩

theorem own_full {w : World} {B : Nat} {v : Value} {l : List Int} (h : OwnZ w B v l) (h0 : 0 < l.length) : ∃ g c, v = .slice (some ⟨g, 0, none⟩) l.length c ∧ l.length ≤ c ∧ B ≤ g ∧ g < w.heap.size ∧ IntsIn w g l := by
  have h' := h
  rcases h.2 with ⟨_, h1⟩ | ⟨g, c, cur, rfl, hB, hh, hc, _⟩
  · omega
  · exact ⟨g, c, rfl, hc, hB, lt_of_block hh, ints_in_row h'⟩

theorem front_lst {w : World} {g n c : Nat} {l t : List Int} (h : IntsIn w g (l ++ t)) (hl : l.length = n) : Lst w (some ⟨g, 0, none⟩) n c l :=
  ⟨hl, fun j x hj => ⟨g, 0, rfl, by
    rw [Nat.zero_add]
    refine h.cell ?_
    rw [List.getElem?_append_left (List.getElem?_eq_some_iff.1 hj).1]
    exact hj⟩, fun e => by cases e⟩

set_option maxRecDepth 100000 in
set_option maxHeartbeats 8000000 in
theorem mark_any (v : Value) (l : List Int) (m : Int) (B : Nat) (w : World) (h : OwnZ w B v l) (hB : B ≤ w.heap.size) (hl : l.length ≤ 17592186043904) (hm0 : -1000 ≤ m) (hm1 : m ≤ 0) :
    Calls Try.prog 19 #[v, .int .i64 m] w fun e w' => e = .returned (.tuple #[]) ∧ Wrote (fun b => v.ownBlock = some b) w w' := by
  obtain ⟨vo, vc, hv, -, -⟩ := h.form
  obtain ⟨n, hn⟩ : ∃ n, l.length = n := ⟨_, rfl⟩
  rw [hn] at hv hl
  have H := Nu.hid h
  have HN := Nu.hid hn
  subst hv
  clear h hn
  go_enter Try.func19, Try.ntmps19
  go_wp2
  go_loopw [8] (fun cv wr => ∃ (i : Nat) (q : List Int), i ≤ n ∧ cv = .int .i64 (i : Int) ∧ q.length = n ∧ OwnZ wr B (.slice vo n vc) q ∧ Wrote (fun b => (Value.slice vo n vc).ownBlock = some b) w wr) (fun cv _ => n - (intOf cv).toNat)
  case atStart => exact ⟨0, l, Nat.zero_le _, rfl, HN.out, H.out, Wrote.refl _ _⟩
  case round =>
    obtain ⟨i, q, hin, rfl, hq, hown, hw⟩ := hrel
    have HQ := Nu.hid hq
    have HOWN := Nu.hid hown
    have HW := Nu.hid hw
    by_cases hlt : i < n
    · have i0 : (0 : Int) ≤ (i : Int) := by omega
      have i1 : (i : Int) < (n : Int) := by omega
      obtain ⟨g, hg⟩ : ∃ g, vo = some ⟨g, 0, none⟩ := by
        rcases hown.2 with ⟨h', h0⟩ | ⟨g', c', cur, e', _⟩
        · omega
        · cases e'; exact ⟨g', rfl⟩
      subst hg
      have ho := hown
      unfold OwnZ at ho
      rw [hq] at ho
      obtain ⟨y, hy⟩ : ∃ y, q[i]? = some y := ⟨_, List.getElem?_eq_getElem (by omega)⟩
      have hc := World.ownsRow.cells ho (g := g) rfl i (.int .i64 y) (by rw [List.getElem?_map, hy]; rfl)
      have ea : ((⟨g, 0, none⟩ : Addr).add i) = ⟨g, i, none⟩ := by
        by_cases h0 : i = 0 <;> simp [Addr.add, h0]
      rw [ea] at hc
      have fr := ho.frozenAt i
      have HST : Hid (OwnZ (wr.setCell ⟨g, i, none⟩ (.int .i64 m)) B (.slice (some ⟨g, 0, none⟩) n vc) (q.set i m)) := by
        unfold OwnZ
        rw [List.length_set, hq, List.map_set]
        exact (ho.stored i (.int .i64 m)).1
      have HWW := Nu.hid (hw.setCell (b := g) (i := i) rfl (.int .i64 m))
      clear hq hown hw ho hy ea
      go_wp2
      go_roundw
      case rel => exact ⟨i + 1, _, by omega, by go_num, by rw [List.length_set]; exact HQ.out, HST.out, HWW.out⟩
      case measure => simp [intOf]; omega
    · have hd : ¬ ((i : Int) < (n : Int)) := by omega
      clear hq hown hw
      go_wp2
      go_loopw [0, 5] (fun gv cv wx => ∃ (j : Nat) (q' : List Int), j ≤ 40 ∧ cv = .int .i64 (j : Int) ∧ q'.length = n + j ∧ OwnZ wx B gv q' ∧ (∀ b, gv.ownBlock = some b → (Value.slice vo n vc).ownBlock = some b ∨ w.heap.size ≤ b) ∧ Wrote (fun b => (Value.slice vo n vc).ownBlock = some b) w wx) (fun _ cv _ => 40 - (intOf cv).toNat)
      case atStart => exact ⟨0, q, by omega, rfl, HQ.out, HOWN.out, fun b hb => .inl hb, HW.out⟩
      case round =>
        obtain ⟨j, q', hj, rfl, hq', hown, hblk, hw⟩ := hrel
        have HQ' := Nu.hid hq'
        have HOWN' := Nu.hid hown
        have HBLK := Nu.hid hblk
        have HW' := Nu.hid hw
        have hszx := hw.size
        clear hq' hown hblk hw
        by_cases hj4 : j < 40
        · have j1 : (j : Int) < 40 := by omega
          have HLL : Hid (q'.length ≤ 17592186044000) := by show _ ≤ _; rw [HQ'.out]; omega
          have hBx : B ≤ wr.heap.size := by omega
          go_wp2_with (at_builtin; refine wpList_push rfl _ _ rfl _ B _ q' (m - 50000) HOWN'.out hBx HLL.out rfl rfl ?_; refine Hid.out ?_)
          refine Nu.hid ?_
          intro v' w5 ho5 hg5 hat5 hb5
          have HO5 := Nu.hid ho5
          have HL5 : Hid ((q' ++ [m - 50000]).length = n + (j + 1)) := by show _ = _; rw [List.length_append, HQ'.out]; rfl
          have HB5 : Hid (∀ b, v'.ownBlock = some b → (Value.slice vo n vc).ownBlock = some b ∨ w.heap.size ≤ b) := fun b hb => by
            rcases hat5 with e | e
            · exact HBLK.out b (e.symm.trans hb)
            · have := Option.some.inj (e.symm.trans hb)
              exact .inr (by omega)
          have HW5 := Nu.hid ((HW'.out.alloc _).grown hg5 (fun b hb hlt => by
            rcases HBLK.out b hb with e | e
            · exact e
            · omega))
          clear ho5 hg5 hat5 hb5
          go_wp2
          go_roundw
          case rel => exact ⟨j + 1, _, by omega, by go_num, HL5.out, HO5.out, HB5.out, HW5.out⟩
          case measure => simp [intOf]; omega
        · have j1 : ¬ ((j : Int) < 40) := by omega
          go_wp2
          go_end0
          exact ⟨rfl, HW'.out⟩

end Go.Proofs.Ytofphdmebjcofaa
