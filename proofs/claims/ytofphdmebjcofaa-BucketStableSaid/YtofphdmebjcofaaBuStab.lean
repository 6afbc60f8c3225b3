/-
  What BucketStable wants beside: its closures, lists that are joined, small laws.
-/
import Derived.Test.YtofphdmebjcofaaBuLook
import Derived.Test.YtofphdmebjcofaaBuSort
namespace Go.Proofs.Ytofphdmebjcofaa
open Go.RowKit Go.Sort

theorem Bu.places_keys (ks : List Int) : ks = (Bu.places ks.length).map fun x => ks.getD x.toNat 0 := by
  refine List.ext_getElem? fun j => ?_
  rw [List.getElem?_map]
  by_cases hj : j < ks.length
  · rw [Bu.places_at hj, Bu.getD_at hj]
    simp
  · rw [List.getElem?_eq_none (by omega), List.getElem?_eq_none (by rw [Bu.places_length]; omega)]
    rfl

theorem Bu.places_mem {n : Nat} {x : Int} (h : x ∈ Bu.places n) : ∃ i : Nat, i < n ∧ x = (i : Int) := by
  obtain ⟨j, hj, rfl⟩ := List.getElem_of_mem h
  rw [Bu.places_length] at hj
  have := Bu.places_at hj
  rw [List.getElem?_eq_getElem (by rw [Bu.places_length]; exact hj)] at this
  exact ⟨j, hj, Option.some.inj this⟩

theorem Bu.sorted_mem {ks S : List Int} (h : Bu.Sorted ks (Bu.places ks.length) S) {x : Int} (hx : x ∈ S) : ∃ i : Nat, i < ks.length ∧ x = (i : Int) := by
  obtain ⟨j, hj, rfl⟩ := List.getElem_of_mem hx
  obtain ⟨i, hi, e, -⟩ := Bu.sorted_place h (k := j) (by rw [← h.len]; exact hj)
  rw [List.getElem?_eq_getElem hj] at e
  exact ⟨i, hi, Option.some.inj e⟩

theorem Bu.fault_of_in {most : Int} {l : List Int} (h0 : 0 ≤ most) (h1 : most ≤ 4194304) (h : Bu.In most l) : Bu.fault most l = 0 := by
  refine Bu.fault_none (by omega) ?_
  rw [List.any_eq_false]
  intro z hz
  have := h z hz
  rw [Bu.bad_no (by omega)]
  decide

theorem Bu.in_keysOf {most : Int} {ks S : List Int} (h : Bu.In most ks) (hs : Bu.Sorted ks (Bu.places ks.length) S) : Bu.In most (Bu.keysOf ks S) := fun z hz => by
  obtain ⟨x, hx, rfl⟩ := List.mem_map.1 hz
  obtain ⟨i, hi, rfl⟩ := Bu.sorted_mem hs hx
  rw [Int.toNat_natCast]
  exact h _ (List.mem_of_getElem? (Bu.getD_at hi))

set_option maxHeartbeats 2000000 in
theorem stab1_any (B : Nat) (ao : Option Addr) (n ca i : Nat) (ks : List Int) (W : World) (hi : i < n) (hbox : W.cell? ⟨B, 0, none⟩ = some (.slice ao n ca)) (hL : Lst W ao n ca ks) :
    Calls Try.prog 16 #[.int .i64 (i : Int), .pointer (some ⟨B, 0, none⟩)] W fun e w' => e = .returned (.int .i64 (ks.getD i 0)) ∧ w' = W := by
  obtain ⟨b, o, rfl, c0⟩ := hL.ints i _ (Bu.getD_at (by rw [hL.len]; exact hi))
  have i0 : (0 : Int) ≤ (i : Int) := by omega
  have i1 : (i : Int) < (n : Int) := by omega
  generalize ks.getD i 0 = z at c0 ⊢
  clear hL
  go_enter Try.func16, Try.ntmps16
  go_wp2
  go_ret
  exact ⟨rfl, rfl⟩

set_option maxHeartbeats 2000000 in
theorem stab2_any (B : Nat) (ao : Option Addr) (n ca i : Nat) (ks : List Int) (W : World) (hi : i < n) (hbox : W.cell? ⟨B, 0, none⟩ = some (.slice ao n ca)) (hL : Lst W ao n ca ks) :
    Calls Try.prog 17 #[.int .i64 (i : Int), .pointer (some ⟨B, 0, none⟩)] W fun e w' => e = .returned (.int .i64 (ks.getD i 0)) ∧ w' = W := by
  obtain ⟨b, o, rfl, c0⟩ := hL.ints i _ (Bu.getD_at (by rw [hL.len]; exact hi))
  have i0 : (0 : Int) ≤ (i : Int) := by omega
  have i1 : (i : Int) < (n : Int) := by omega
  generalize ks.getD i 0 = z at c0 ⊢
  clear hL
  go_enter Try.func17, Try.ntmps17
  go_wp2
  go_ret
  exact ⟨rfl, rfl⟩

theorem stab1_enters : ∀ (args : Array Value) (w : World), (callFunc 16 args).run Try.prog w = .ok (.enter 16 args) w := enters_of Try.func16 (by kernel_rfl) rfl
theorem stab2_enters : ∀ (args : Array Value) (w : World), (callFunc 17 args).run Try.prog w = .ok (.enter 17 args) w := enters_of Try.func17 (by kernel_rfl) rfl

/-- The box of the keys, and the keys, in a later world. -/
structure Keyed (w0 : World) (B : Nat) (ao : Option Addr) (n ca : Nat) (ks : List Int) (W : World) : Prop where
  below : Below w0.heap.size w0 W
  box : W.cell? ⟨B, 0, none⟩ = some (.slice ao n ca)
  lst : Lst W ao n ca ks

theorem Keyed.later {w0 W W' : World} {B : Nat} {ao : Option Addr} {n ca : Nat} {ks : List Int} (h : Keyed w0 B ao n ca ks W) (hb : Below W.heap.size W W') : Keyed w0 B ao n ca ks W' :=
  ⟨h.below.trans (hb.mono h.below.size), (hb.cell (p := ⟨B, 0, none⟩) (block_lt_of_cell h.box)).trans h.box, h.lst.later hb⟩
theorem Keyed.drewN {w0 W : World} {B : Nat} {ao : Option Addr} {n ca : Nat} {ks : List Int} (h : Keyed w0 B ao n ca ks W) (k : Nat) : Keyed w0 B ao n ca ks (W.drewN k) := h.later (below_drewN (Below.refl _ _) k)

/-- Sort of places by the keys. -/
theorem sort1_any {w0 W : World} {B : Nat} {ao po : Option Addr} {n ca pc : Nat} {ks : List Int} (most : Int) (hn : n ≤ 17592186043904) (h : Keyed w0 B ao n ca ks W) (hp : Lst W po n pc (Bu.places n)) :
    Calls Try.prog 12 #[.slice po n pc, .func (.func 16) #[] #[.pointer (some ⟨B, 0, none⟩)], .int .i64 most] W (SortPost most ks (Bu.places n) W) := by
  have hl := h.lst.len
  refine sortint_any 16 #[.pointer (some ⟨B, 0, none⟩)] (fun x => ks.getD x.toNat 0) most po pc n (Bu.places n) ks W hn hp (by rw [← hl]; exact Bu.places_keys ks) stab1_enters (fun W2 x hb hx => ?_)
  obtain ⟨i, hi, rfl⟩ := Bu.places_mem hx
  have h2 := h.later hb
  refine (stab1_any B ao n ca i ks W2 hi h2.box h2.lst).mono ?_
  rintro e w' ⟨rfl, rfl⟩
  exact ⟨by rw [Int.toNat_natCast], Below.refl _ _⟩

theorem sort2_any {w0 W : World} {B : Nat} {ao po : Option Addr} {n ca pc : Nat} {ks S : List Int} (most : Int) (hn : n ≤ 17592186043904) (h : Keyed w0 B ao n ca ks W) (hp : Lst W po n pc S) (hs : Bu.Sorted ks (Bu.places n) S) (hf : Bu.fault most ks = 0) :
    Calls Try.prog 12 #[.slice po n pc, .func (.func 17) #[] #[.pointer (some ⟨B, 0, none⟩)], .int .i64 most] W fun e w' => ∃ g, e = .returned (.tuple #[.slice (some ⟨g, 0, none⟩) n n, .int .i64 0]) ∧ IntsBlk w' g S ∧ Below W.heap.size W w' := by
  have hl := h.lst.len
  obtain ⟨f0, f1, f2, -⟩ := fault_few hf
  have hs' := hs
  rw [← hl] at hs'
  refine (sortint_any 17 #[.pointer (some ⟨B, 0, none⟩)] (fun x => ks.getD x.toNat 0) most po pc n S (Bu.keysOf ks S) W hn hp rfl stab2_enters (fun W2 x hb hx => ?_)).mono ?_
  · obtain ⟨i, hi, rfl⟩ := Bu.sorted_mem hs' hx
    have h2 := h.later hb
    refine (stab2_any B ao n ca i ks W2 (by omega) h2.box h2.lst).mono ?_
    rintro e w' ⟨rfl, rfl⟩
    exact ⟨by rw [Int.toNat_natCast], Below.refl _ _⟩
  · rintro e w' ⟨⟨h1, _⟩ | ⟨_, g, T, h2, _, h3, h4⟩, hb⟩
    · exact absurd (Bu.fault_of_in f0 f1 (Bu.in_keysOf f2 hs')) h1
    · rw [hp.len] at h2
      rw [Bu.sorted_again hs' h4] at h3
      exact ⟨g, h2, h3, hb⟩

/-- 'append(v, xs...)', v a list of one's own. -/
theorem wpList_extend {ops : Array Oper} {rest : List Oper} {o : Oper} {a : Act} {Q : Exit → Act → World → Prop} (hgd : o.guard = none) (s x : Operand)
    (ho : o.op = .call { callee := .builtin .append, args := #[s, x], argTypes := #[22, 22] }) (W : World) (B : Nat) (v : Value) (l xs : List Int) (hown : OwnZ W B v l) (xo : Option Addr) (xn xc : Nat) (hx0 : Lst W xo xn xc xs)
    (hB : B ≤ W.heap.size) (hl : l.length + xs.length ≤ 17592186044000) (hs : a.eval s = v) (hx : a.eval x = .slice xo xn xc)
    (h : ∀ v' w', OwnZ w' B v' (l ++ xs) → Below B W w' → wpList Try.prog ops Q rest (a.put o.dst v') w') :
    wpList Try.prog ops Q (o :: rest) a W := by
  obtain ⟨i0, hi, hz0, hz1, hz2⟩ := info_parts Try.infoNum
  rcases xo with _ | y
  · obtain ⟨rfl, rfl⟩ := hx0.none rfl
    have e : xs = [] := List.length_eq_zero_iff.1 hx0.len
    subst e
    refine wpList_append_own_none hgd s x 22 ho B 3 i0 1 Try.underlying22 hi v l.length (l.map (Value.int .i64)) hs hown hx ?_
    exact h v W (by rw [List.append_nil]; exact hown) (Below.refl _ _)
  · have hxl := hx0.len
    refine wpList_append_own W hgd s x 22 ho B 3 i0 (.int .i64 0) 1 8 Try.underlying22 hi hz0 hz1 hz2 rfl (by decide) v l.length (l.map (Value.int .i64)) hs hown y xn xc (xs.map (Value.int .i64)) hx (by rw [List.length_map, hx0.len]; omega) ?_ (ints_oneCell .i64 _) (by unfold maxLen; omega) (by omega) hB ?_
    · intro j u hj
      rw [List.getElem?_map] at hj
      cases hlj : xs[j]? with
      | none => rw [hlj] at hj; cases hj
      | some z =>
        rw [hlj] at hj
        obtain rfl := Option.some.inj hj
        obtain ⟨b, o', e, hc⟩ := hx0.ints j z hlj
        cases e
        have ea : ((⟨b, o', none⟩ : Addr).add j) = ⟨b, o' + j, none⟩ := by
          by_cases h0 : j = 0 <;> simp [Addr.add, h0]
        rw [ea]
        exact hc
    · intro v' w' hown' hg _
      refine h v' w' ?_ ((Below.refl B W).grown hg hB (fun b hb => (World.ownsRow.lt hown b hb).1))
      unfold OwnZ
      rw [List.length_append, List.map_append, hxl]
      exact hown'

end Go.Proofs.Ytofphdmebjcofaa
