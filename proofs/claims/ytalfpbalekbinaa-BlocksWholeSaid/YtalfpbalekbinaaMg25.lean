import Derived.Test.YtalfpbalekbinaaMg12
import Derived.Maps.AppendAt
import Derived.Sort.Grow
import Derived.Test.YtalfpbalekbinaaMg24
import Derived.Test.YtalfpbalekbinaaMgS1
import Derived.Test.YtalfpbalekbinaaMg01
import Derived.Test.YtalfpbalekbinaaMg00
import Derived.Test.YtalfpbalekbinaaMg05
import Derived.Test.YtalfpbalekbinaaMg02
import Derived.BigQuiet
import Derived.Deep.QuietTactic
import Derived.Deep.CutBlock
import Derived.Deep.CutRange
/-
  'append(v, z)' of a list of one's own.
-/
namespace Go.Proofs.Ytalfpbalekbinaa
open Go.RowKit Go.Sort

/-- 'append(v, z)', v a list of one's own. -/
theorem wpList_push {ops : Array Oper} {rest : List Oper} {o : Oper} {a : Act} {Q : Exit → Act → World → Prop} (hgd : o.guard = none) (s x : Operand)
    (ho : o.op = .call { callee := .builtin .append, args := #[s, x], argTypes := #[26, 26] }) (W : World) (B : Nat) (v : Value) (l : List Int) (z : Int) (hown : OwnZ W B v l)
    (hB : B ≤ W.heap.size) (hl : l.length ≤ 17592186044000) (hs : a.eval s = v) (hx : a.eval x = .slice (some ⟨W.heap.size, 0, none⟩) 1 1)
    (h : ∀ v' w', OwnZ w' B v' (l ++ [z]) → (W.alloc (.cells #[.int .i64 z] 3)).grownBy w' v.ownBlock → (v'.ownBlock = v.ownBlock ∨ v'.ownBlock = some (W.heap.size + 1)) → Below B W w' → wpList Try.prog ops Q rest (a.put o.dst v') w') :
    wpList Try.prog ops Q (o :: rest) a (W.alloc (.cells #[.int .i64 z] 3)) := by
  obtain ⟨i0, hi, hz0, hz1, hz2⟩ := info_parts Try.infoNum
  have hb0 : Below B W (W.alloc (.cells #[.int .i64 z] 3)) := (Below.refl _ _).alloc hB _
  refine wpList_append_own_at _ hgd s x 26 ho B 3 i0 (.int .i64 0) 1 8 Try.underlying26 hi hz0 hz1 hz2 rfl (by decide) _ _ _ hs (World.ownsRow.alloc hown _) ⟨W.heap.size, 0, none⟩ 1 1 [.int .i64 z] hx rfl (cell_one_new _ _ _) (by simp [Value.oneCell']) (by unfold maxLen; omega) (by omega) (by simp; omega) ?_
  intro v' w' hown' hg _ hat
  have ho' : OwnZ w' B v' (l ++ [z]) := by
    unfold OwnZ
    rw [List.length_append, List.map_append]
    exact hown'
  have hoB : ∀ b, v.ownBlock = some b → B ≤ b := fun b hb => (World.ownsRow.lt hown b hb).1
  refine h v' w' ho' hg (by simpa using hat) (hb0.grown hg (by simp; omega) hoB)

end Go.Proofs.Ytalfpbalekbinaa

/-
  The found blocks as a map; its keys, sorted.
-/
namespace Go.Proofs.Ytalfpbalekbinaa
open Go.RowKit Go.Sort

theorem atKey_held {D : DataW Value} {kl : Lit} {u : Value} (h : D.atKey kl .nil = .held u) (z : DataW Value) : D.atKey kl z = .held u := by
  unfold DataW.atKey at h ⊢
  cases D <;> simp at h ⊢
  split at h
  · rename_i p hp
    exact h
  · cases h

/-- Block mb is the map of the found blocks, each under its least edge. -/
structure Mp (w : World) (mb : Nat) (F : List (List Nat)) (D : DataW Value) : Prop where
  map : w.ownsMap Try.prog 3 rawE mb F.length D
  keys : ∀ kl, Maps.has D kl = true ↔ ∃ L ∈ F, kl = .int .i64 (Bl.mn L : Int)
  rows : ∀ L ∈ F, ∃ g, D.atKey (.int .i64 (Bl.mn L : Int)) .nil = .held (.slice (some ⟨g, 0, none⟩) L.length L.length) ∧ IntsBlk w g (L.map Nat.cast)

section
variable {w w' : World} {mb : Nat} {F : List (List Nat)} {D : DataW Value}
theorem Mp.later (h : Mp w mb F D) (hb : Below w.heap.size w w') : Mp w' mb F D := by
  refine ⟨?_, h.keys, fun L hL => ?_⟩
  · have hl := h.map.lt
    obtain ⟨es, ck, e, r⟩ := h.map
    exact ⟨es, ck, (hb.block _ hl).trans e, r⟩
  · obtain ⟨g, e, hi⟩ := h.rows L hL
    exact ⟨g, e, hi.later hb⟩
/-- What lies under a block's least edge, now and later. -/
theorem Mp.looks (h : Mp w mb F D) {L : List Nat} (hL : L ∈ F) (hm : Bl.mn L < 4194304) : ∃ g, g < w.heap.size ∧ ∀ W, Below w.heap.size w W → (Instr.lookup 56 (.map (some mb)) (.int .i64 (Bl.mn L : Int)) false).run Try.prog W = .ok (.slice (some ⟨g, 0, none⟩) L.length L.length) W ∧ IntsBlk W g (L.map Nat.cast) := by
  obtain ⟨g, e, hi⟩ := h.rows L hL
  refine ⟨g, hi.lt, fun W hW => ⟨?_, hi.later hW⟩⟩
  obtain ⟨v, ps, hrun, hR⟩ := (h.later hW).map.lookup keyedInt Try.underlying56 (look_zero W) (zd := .held (.slice none 0 0)) (zp := []) rfl (int_key (k := (Bl.mn L : Int)) (by omega) (by omega))
  rw [atKey_held e] at hR
  have : v = .slice (some ⟨g, 0, none⟩) L.length L.length := by
    have h1 : (DataW.held v : DataW Value) = .held (.slice (some ⟨g, 0, none⟩) L.length L.length) := congrArg Prod.fst (Option.some.inj hR)
    exact DataW.held.inj h1
  rw [this] at hrun
  exact hrun
end

/-- The keys, rising. -/
def Bl.KeysOf (F : List (List Nat)) (K : List Nat) : Prop := K.Pairwise (fun a b => a < b) ∧ ∀ k, k ∈ K ↔ ∃ L ∈ F, k = Bl.mn L

theorem Bl.sorted_keys {F : List (List Nat)} {K : List Nat} (hn : K.Nodup) (hm : ∀ k, k ∈ K ↔ ∃ L ∈ F, k = Bl.mn L) : ∃ K', Bl.KeysOf F K' ∧ ((K.map (Nat.cast : Nat → Int)).mergeSort fun x y => decide (x ≤ y)) = K'.map Nat.cast ∧ K'.length = K.length := by
  refine ⟨K.mergeSort fun x y => decide (x ≤ y), ⟨?_, fun k => ?_⟩, ?_, List.length_mergeSort K⟩
  · have hp : (K.mergeSort fun x y => decide (x ≤ y)).Pairwise (fun a b => a ≤ b) := by
      have := List.pairwise_mergeSort (le := fun x y : Nat => decide (x ≤ y)) (fun a b c h1 h2 => by simp at h1 h2 ⊢; omega) (fun a b => by simp; omega) K
      exact this.imp (fun h => by simpa using h)
    have hn' : (K.mergeSort fun x y => decide (x ≤ y)).Nodup := (List.mergeSort_perm K _).nodup_iff.2 hn
    exact (hp.and hn').imp (fun h => Nat.lt_of_le_of_ne h.1 h.2)
  · rw [(List.mergeSort_perm K _).mem_iff]
    exact hm k
  · have := List.map_mergeSort (r := fun x y : Nat => decide (x ≤ y)) (s := fun x y : Int => decide (x ≤ y)) (f := (Nat.cast : Nat → Int)) (l := K) (fun a _ b _ => by simp)
    exact this.symm

def KeysPost (F : List (List Nat)) (w : World) (e : Ending) (w' : World) : Prop := ∃ v K, e = .returned v ∧ Bl.KeysOf F K ∧ OwnZ w' w.heap.size v (K.map Nat.cast) ∧ Below w.heap.size w w'

theorem size_le9 {w : World} {mb n : Nat} {D : DataW Value} (h : w.ownsMap Try.prog 3 rawE mb n D) : Maps.size D ≤ n := h.size_le

set_option maxRecDepth 100000 in
set_option maxHeartbeats 16000000 in
theorem keys_any9 (mb : Nat) (F : List (List Nat)) (D : DataW Value) (w : World) (h : Mp w mb F D) (hF : F.length ≤ 4194304) (hlt : ∀ L ∈ F, Bl.mn L < 4194304) (hnd : (F.map Bl.mn).Nodup) :
    Calls Try.prog 46 #[.map (some mb)] w (KeysPost F w) := by
  obtain ⟨i0, hi, hz0, hz1, hz2⟩ := info_parts Try.infoNum
  have H := Nu.hid h
  have hsz := h.map.size_le
  have hml := h.map.lt
  obtain ⟨sz, hsze⟩ : ∃ sz, Maps.size D = sz := ⟨_, rfl⟩
  rw [hsze] at hsz
  have HLT := Nu.hid hlt
  have HND := Nu.hid hnd
  clear h hlt hnd
  go_enter Try.func46, Try.ntmps46
  go_wp2_with (first | (at_len; refine wpList_len_own _ rfl _ _ rfl _ _ Try.underlying56 rawE mb F.length D rfl H.out.map ?_; rw [hsze]) | (at_make; refine wpList_make_own _ rfl _ _ 26 rfl w.heap.size 3 i0 (.int .i64 0) 1 Try.underlying26 hi hz0 hz1 _ _ _ sz rfl rfl rfl (by rw [hz2]; omega) (by unfold maxLen; omega) (Nat.le_refl _) ?_; refine Hid.out ?_))
  refine Nu.hid ?_
  intro w1 hrow hg1
  have hb1 : Below w.heap.size w w1 := (Below.refl _ _).grown hg1 (Nat.le_refl _) (fun j hj => by cases hj)
  have hm1 := (H.out.later hb1).map
  have hs1 : w.heap.size < w1.heap.size := (World.ownsRow.lt hrow _ rfl).2
  have HR1 : Hid (OwnZ w1 w.heap.size (.slice (some ⟨w.heap.size, 0, none⟩) 0 sz) (([] : List Nat).map Nat.cast)) := hrow
  have HB1 := Nu.hid hb1
  clear hrow hg1 hb1
  go_wp2_with (at_range; refine wpList_range_own _ rfl _ 56 rfl 3 26 keyedInt Try.underlying56 rawE mb F.length D rfl hm1 ?_; intro w2 hrg2 hg2 hs2)
  go_frame
  have HB2 : Hid (Below w.heap.size w w2) := HB1.out.grown hg2 (Nat.le_of_lt hs1) (fun j hj => by cases hj)
  have HR2 : Hid (OwnZ w2 w.heap.size (.slice (some ⟨w.heap.size, 0, none⟩) 0 sz) (([] : List Nat).map Nat.cast)) := HR1.out.same fun g hg hl => hg2.block g hl (by simp)
  have HRG := Nu.hid hrg2
  clear hrg2 hg2 hm1 HB1 HR1
  go_loopw [3] (fun v wr => ∃ (left : Lit → Bool) (cnt : Nat) (K : List Nat), wr.ranges Try.prog 3 rawE mb w1.heap.size F.length D left cnt ∧ OwnZ wr w.heap.size v (K.map Nat.cast) ∧ K.Nodup ∧ (∀ k : Nat, k ∈ K ↔ Maps.has D (.int .i64 (k : Int)) = true ∧ left (.int .i64 (k : Int)) = false) ∧ (∀ kl, left kl = true → Maps.has D kl = true) ∧ Below w.heap.size w wr ∧ v.ownBlock ≠ some w1.heap.size ∧ w1.heap.size < wr.heap.size) (fun _ wr => wr.rangeLeft mb w1.heap.size)
  case atStart =>
    refine ⟨_, _, [], HRG.out, HR2.out, List.nodup_nil, fun k => ⟨fun h => (by cases h), fun h => ?_⟩, fun kl h => h, HB2.out, ?_, by omega⟩
    · rw [h.1] at h
      cases h.2
    · intro e
      have e2 : w.heap.size = w1.heap.size := Option.some.inj e
      omega
  case round =>
    clear HRG HR2 HB2
    obtain ⟨left, cnt, K, hrg, hown, hKn, hKm, hlh, hb, hvr, hsr⟩ := hrel
    obtain ⟨vo, vc, hv3, -, -⟩ := hown.form
    rw [List.length_map] at hv3
    subst hv3
    have hKl : K.length ≤ F.length := by
      have := Bl.nodup_sub (l1 := K) (l2 := F.map Bl.mn) hKn (fun k hk => by
        obtain ⟨L, hL, e⟩ := (H.out.keys _).1 ((hKm k).1 hk).1
        injection e with e1 e2
        have : k = Bl.mn L := by omega
        exact List.mem_map.2 ⟨L, hL, this.symm⟩)
      simpa using this
    have HOWN := Nu.hid hown
    have HB := Nu.hid hb
    have HRG := Nu.hid hrg
    have HKM := Nu.hid hKm
    have HKN := Nu.hid hKn
    have HLH := Nu.hid hlh
    have HVR := Nu.hid hvr
    clear hown hb hKm hKn hlh hvr
    go_wp2_with (at_next; refine wpList_next_ranges _ rfl _ rfl 3 keyedInt rawE (Value.int .i64) (fun v : Value => v) (fun key kl hk => by obtain ⟨x, rfl, _⟩ := Maps.keyOf_int_inv Try.underlying3 hk; exact ⟨x, rfl⟩) (fun v y _ => ⟨v, rfl⟩) mb w1.heap.size F.length D left cnt rfl HRG.out ?_ ?_)
    · intro _ hl0
      have HS := Nu.hid (isort_any w.heap.size (.slice vo K.length vc) (K.map Nat.cast) wr HOWN.out (by rw [List.length_map]; omega))
      have HEND : Hid (∀ w', OwnZ w' w.heap.size (.slice vo K.length vc) ((K.map (Nat.cast : Nat → Int)).mergeSort fun x y => decide (x ≤ y)) → wr.grownBy w' (.slice vo K.length vc : Value).ownBlock → KeysPost F w (.returned (.slice vo K.length vc)) w') := fun w' ho hg => by
        obtain ⟨K', hK', e, _⟩ := Bl.sorted_keys HKN.out (F := F) (fun k => by
          rw [HKM.out k, H.out.keys]
          constructor
          · rintro ⟨⟨L, hL, e⟩, _⟩
            injection e with e1 e2
            exact ⟨L, hL, by omega⟩
          · rintro ⟨L, hL, rfl⟩
            exact ⟨⟨L, hL, rfl⟩, hl0 _⟩)
        rw [e] at ho
        exact ⟨_, K', rfl, hK', ho, HB.out.grown hg HB.out.size (fun k hk => (World.ownsRow.lt HOWN.out k hk).1)⟩
      clear hrg
      go_wp2_with (go_at_call 72; refine HS.out.mono ?_; rintro e w5 ⟨rfl, ho, hg⟩; have HE := Nu.hid (HEND.out w5 ho hg); clear ho hg)
      go_ret
      exact HE.out
    · intro x c kl y1 y2 w4 cnt4 hkx hlk hRc hat hrg4 hcnt hg4 hs4 hen
      obtain ⟨x', hx', hkl, -⟩ := Maps.keyOf_int_inv Try.underlying3 hkx
      cases hx'
      subst hkl
      obtain ⟨L, hL, hLe⟩ := (H.out.keys _).1 (HLH.out _ hlk)
      injection hLe with hLe1 hLe2
      have hmb : mb < w.heap.size := hml
      have ho4 : OwnZ w4 w.heap.size (.slice vo K.length vc) (K.map Nat.cast) := HOWN.out.same fun g hg hl => hg4.block g hl (fun e => HVR.out (by rw [hg]; exact e))
      have HO4 := Nu.hid ho4
      have hb4 : Below w.heap.size w w4 := HB.out.grown hg4 HB.out.size (fun k hk => by have := Option.some.inj hk; omega)
      have HB4 := Nu.hid hb4
      have HRG4 := Nu.hid hrg4
      have hs4' : w.heap.size ≤ w4.heap.size := hb4.size
      have HM : Hid (cnt4 < wr.rangeLeft mb w1.heap.size) := by
        show _ < _
        rw [hrg.left_eq]
        exact hcnt
      have hnk : ¬ (Lit.int .i64 (Bl.mn L : Int)).sameKey (.int .i64 (Bl.mn L : Int)) = false := by simp [Lit.sameKey]
      have HK' : Hid ((K ++ [Bl.mn L]).Nodup ∧ (∀ k : Nat, k ∈ K ++ [Bl.mn L] ↔ Maps.has D (.int .i64 (k : Int)) = true ∧ (left (.int .i64 (k : Int)) && !(Lit.int .i64 (k : Int)).sameKey (.int .i64 x)) = false) ∧ ∀ kl, (left kl && !kl.sameKey (.int .i64 x)) = true → Maps.has D kl = true) := by
        have hsame : ∀ k : Nat, (Lit.int .i64 (k : Int)).sameKey (.int .i64 x) = decide (k = Bl.mn L) := fun k => by
          simp only [Lit.sameKey, true_and, hLe2]
          by_cases e : k = Bl.mn L
          · simp [e]
          · simp [e]
            omega
        refine ⟨?_, fun k => ?_, fun kl hk => HLH.out kl (by rw [Bool.and_eq_true] at hk; exact hk.1)⟩
        · rw [List.nodup_append]
          refine ⟨HKN.out, by simp, fun a ha b hb e => ?_⟩
          have hb' : b = Bl.mn L := by simpa using hb
          have := ((HKM.out a).1 ha).2
          rw [e, hb', ← hLe2, hlk] at this
          cases this
        · rw [List.mem_append, HKM.out k, hsame, List.mem_singleton]
          by_cases e : k = Bl.mn L
          · constructor
            · intro _
              refine ⟨?_, by simp [e]⟩
              rw [e, ← hLe2]
              exact HLH.out _ hlk
            · intro _
              exact .inr e
          · simp [e]
      obtain ⟨xn, hxn⟩ : ∃ xn, xn = Bl.mn L := ⟨_, rfl⟩
      rw [← hxn] at HK' hLe2
      have hxl : xn < 4194304 := by rw [hxn]; exact HLT.out L hL
      have HS4 := Nu.hid hs4
      clear ho4 hb4 hrg4 hg4 hRc hat hrg hcnt hnk hxn hlk hkx hLe1 hs4
      rw [hLe2] at HK' HRG4 hen ⊢
      clear hLe2
      go_wp2_with (at_builtin; refine wpList_push rfl _ _ rfl w4 w.heap.size (.slice vo K.length vc) (K.map Nat.cast) (xn : Int) HO4.out hs4' (by rw [List.length_map]; omega) rfl rfl ?_; refine Hid.out ?_)
      refine Nu.hid ?_
      intro v' w5 ho5 hg5 hat5 hb5
      have hvr5 : v'.ownBlock ≠ some w1.heap.size := by
        rcases hat5 with e | e
        · rw [e]; exact HVR.out
        · rw [e]; intro e2; have := Option.some.inj e2; have := HS4.out; omega
      have hrg5 : w5.ranges Try.prog 3 rawE mb w1.heap.size F.length D (fun z => left z && !z.sameKey (.int .i64 (xn : Int))) cnt4 := (HRG4.out.alloc _).kept hg5 (fun e => by have := (World.ownsRow.lt HO4.out mb e.symm).1; omega) (fun e => HVR.out e.symm)
      have HRG5 := Nu.hid hrg5
      have HO5 : Hid (OwnZ w5 w.heap.size v' ((K ++ [xn]).map Nat.cast)) := by
        show OwnZ _ _ _ _
        rw [List.map_append]
        exact ho5
      have HB5 : Hid (Below w.heap.size w w5) := HB4.out.trans hb5
      have hs5 : w1.heap.size < w5.heap.size := by have := hb5.size; have := HS4.out; omega
      have HVR5 := Nu.hid hvr5
      clear hrg5 ho5 hg5 hat5 hb5 hvr5
      go_wp2
      go_roundw
      case rel => exact ⟨_, _, K ++ [xn], HRG5.out, HO5.out, HK'.out.1, HK'.out.2.1, HK'.out.2.2, HB5.out, HVR5.out, hs5⟩
      case measure => rw [HRG5.out.left_eq]; exact HM.out
end Go.Proofs.Ytalfpbalekbinaa

/-
  Blocks, pure: labels of what hangs together without a vertex, by the edges as a list; what a pass over the edges does to them.
-/
namespace Go.Proofs.Ytalfpbalekbinaa
namespace Bl

/-- The sum of the first values. -/
def tot (f : Nat → Nat) : Nat → Nat
  | 0 => 0
  | k + 1 => tot f k + f k
theorem tot_congr {f g : Nat → Nat} : ∀ k, (∀ i, i < k → f i = g i) → tot f k = tot g k
  | 0, _ => rfl
  | k + 1, h => by unfold tot; rw [tot_congr k (fun i hi => h i (by omega)), h k (by omega)]
theorem tot_less {f g : Nat → Nat} {x : Nat} (hx : g x < f x) (ho : ∀ i, i ≠ x → g i = f i) : ∀ k, x < k → tot g k < tot f k
  | 0, h => by omega
  | k + 1, h => by
    unfold tot
    by_cases e : x = k
    · subst e
      rw [tot_congr (f := g) (g := f) x (fun i hi => ho i (by omega))]
      omega
    · have := tot_less hx ho k (by omega)
      rw [ho k (by omega)]
      omega
/-- A number of a list, none below 0. -/
def val (l : List Int) (i : Nat) : Nat := (l.getD i 0).toNat

/-- Closed under edges that don't end at v. -/
def ShutE (es : List (Int × Int)) (v : Int) (S : Nat → Prop) : Prop := ∀ a b : Nat, ((a : Int), (b : Int)) ∈ es → (a : Int) ≠ v → (b : Int) ≠ v → (S a ↔ S b)
def ConnE (es : List (Int × Int)) (v : Int) (a b : Nat) : Prop := ∀ S, ShutE es v S → (S a ↔ S b)
theorem ConnE.refl {es : List (Int × Int)} {v : Int} (a : Nat) : ConnE es v a a := fun _ _ => Iff.rfl
theorem ConnE.symm {es : List (Int × Int)} {v : Int} {a b : Nat} (h : ConnE es v a b) : ConnE es v b a := fun S hS => (h S hS).symm
theorem ConnE.trans {es : List (Int × Int)} {v : Int} {a b c : Nat} (h : ConnE es v a b) (k : ConnE es v b c) : ConnE es v a c := fun S hS => (h S hS).trans (k S hS)
theorem ConnE.edge {es : List (Int × Int)} {v : Int} {a b : Nat} (h : ((a : Int), (b : Int)) ∈ es) (ha : (a : Int) ≠ v) (hb : (b : Int) ≠ v) : ConnE es v a b := fun _ hS => hS a b h ha hb

/-- Labels: -1 of v; else a vertex with which it hangs together without v. -/
structure LabE (n : Nat) (es : List (Int × Int)) (v : Int) (l : List Int) : Prop where
  len : l.length = n
  me : ∀ u : Nat, u < n → (u : Int) = v → l[u]? = some (-1)
  lab : ∀ u : Nat, u < n → (u : Int) ≠ v → ∃ g : Nat, l[u]? = some (g : Int) ∧ ConnE es v u g

theorem LabE.put {n : Nat} {es : List (Int × Int)} {v : Int} {l : List Int} (L : LabE n es v l) {a b : Nat} {y : Int} (_ : a < n) (hb : b < n) (ha' : (a : Int) ≠ v) (hb' : (b : Int) ≠ v) (hc : ConnE es v a b) (hy : l[b]? = some y) : LabE n es v (l.set a y) := by
  refine ⟨by rw [List.length_set]; exact L.len, fun u hu e => ?_, fun u hu e => ?_⟩
  · rw [List.getElem?_set_ne (by intro h; subst h; exact ha' e)]
    exact L.me u hu e
  · by_cases h : a = u
    · subst h
      obtain ⟨g, h1, h2⟩ := L.lab b hb hb'
      rw [hy] at h1
      cases h1
      exact ⟨g, by rw [List.getElem?_set_self (by rw [L.len]; exact hu)], hc.trans h2⟩
    · rw [List.getElem?_set_ne h]
      exact L.lab u hu e

/-- No edge changes anything any more (of those ahead of i). -/
def Quiet (es : List (Int × Int)) (v : Int) (l : List Int) (i : Nat) : Prop := ∀ (k : Nat) (p : Int × Int), k < i → es[k]? = some p → p.1 ≠ v → p.2 ≠ v → l[p.1.toNat]? = l[p.2.toNat]?

/-- Labels at rest tell who hangs together. -/
theorem LabE.done {n : Nat} {es : List (Int × Int)} {v : Int} {l : List Int} (L : LabE n es v l) (Q : Quiet es v l es.length) {a b : Nat} (ha : a < n) (hb : b < n) (ha' : (a : Int) ≠ v) (hb' : (b : Int) ≠ v) : l[a]? = l[b]? ↔ ConnE es v a b := by
  constructor
  · intro h
    obtain ⟨g1, e1, c1⟩ := L.lab a ha ha'
    obtain ⟨g2, e2, c2⟩ := L.lab b hb hb'
    rw [e1, e2] at h
    have : g1 = g2 := by
      have := Option.some.inj h
      omega
    subst this
    exact c1.trans c2.symm
  · intro hc
    refine ((hc (fun u => l[u]? = l[a]?) (fun x y hxy hx hy => ?_)).1 rfl).symm
    obtain ⟨k, hk⟩ := List.mem_iff_getElem?.1 hxy
    have hkl : k < es.length := (List.getElem?_eq_some_iff.1 hk).1
    have := Q k _ hkl hk hx hy
    simp only [Int.toNat_natCast] at this
    show l[x]? = l[a]? ↔ l[y]? = l[a]?
    rw [this]

/-- A pass has come to edge i: l, from l0. -/
structure PassE (n : Nat) (es : List (Int × Int)) (v : Int) (l0 l : List Int) (i : Nat) (ch : Bool) : Prop where
  lab : LabE n es v l
  less : tot (val l) n ≤ tot (val l0) n
  yes : ch = true → tot (val l) n < tot (val l0) n
  no : ch = false → Quiet es v l i

theorem PassE.start {n : Nat} {es : List (Int × Int)} {v : Int} {l : List Int} (L : LabE n es v l) : PassE n es v l l 0 false := ⟨L, Nat.le_refl _, (fun h => by cases h), fun _ k p hk => by omega⟩

theorem PassE.skip {n : Nat} {es : List (Int × Int)} {v : Int} {l0 l : List Int} {i : Nat} {ch : Bool} (P : PassE n es v l0 l i ch) {q : Int × Int} (hq : es[i]? = some q) (h : q.1 = v ∨ q.2 = v ∨ l[q.1.toNat]? = l[q.2.toNat]?) : PassE n es v l0 l (i + 1) ch :=
  ⟨P.lab, P.less, P.yes, fun hc k p hk hp h1 h2 => by
    by_cases e : k = i
    · subst e
      rw [hq] at hp
      cases hp
      rcases h with h | h | h
      · exact absurd h h1
      · exact absurd h h2
      · exact h
    · exact P.no hc k p (by omega) hp h1 h2⟩

theorem val_at {l : List Int} {i : Nat} {x : Int} (h : l[i]? = some x) : val l i = x.toNat := by
  unfold val
  rw [List.getD_eq_getElem?_getD, h]
  rfl

theorem tot_set {n : Nat} {l : List Int} {a : Nat} {x y : Int} (ha : a < n) (hl : l.length = n) (hx : l[a]? = some x) (h0 : 0 ≤ y) (hlt : y < x) : tot (val (l.set a y)) n < tot (val l) n := by
  refine tot_less (x := a) ?_ (fun i hi => ?_) n ha
  · rw [val_at hx, val_at (x := y) (by rw [List.getElem?_set_self (by omega)])]
    omega
  · unfold val
    rw [List.getD_eq_getElem?_getD, List.getD_eq_getElem?_getD, List.getElem?_set_ne (fun e => hi e.symm)]

/-- One end gets the other's lower label. -/
theorem PassE.put {n : Nat} {es : List (Int × Int)} {v : Int} {l0 l : List Int} {i : Nat} {ch : Bool} (P : PassE n es v l0 l i ch) {a b : Nat} {x y : Int} (ha : a < n) (hb : b < n) (ha' : (a : Int) ≠ v) (hb' : (b : Int) ≠ v) (hc : ConnE es v a b) (hx : l[a]? = some x) (hy : l[b]? = some y) (hlt : y < x) : PassE n es v l0 (l.set a y) (i + 1) true := by
  have h0 : 0 ≤ y := by
    obtain ⟨g, h1, _⟩ := P.lab.lab b hb hb'
    rw [hy] at h1
    cases h1
    omega
  have := tot_set ha P.lab.len hx h0 hlt
  exact ⟨P.lab.put ha hb ha' hb' hc hy, by have := P.less; omega, fun _ => by have := P.less; omega, fun h => by cases h⟩

/-- The list as it is begun: the first k have themselves, the others 0. -/
def beg (n k : Nat) : List Int := (List.range n).map fun i => if i < k then (i : Int) else 0
theorem beg_length (n k : Nat) : (beg n k).length = n := by simp [beg]
theorem beg_at {n k i : Nat} (h : i < n) : (beg n k)[i]? = some (if i < k then (i : Int) else 0) := by
  unfold beg
  rw [List.getElem?_map, List.getElem?_range h]
  rfl
theorem beg_zero (n : Nat) : beg n 0 = List.replicate n 0 := by
  refine List.ext_getElem? fun i => ?_
  by_cases h : i < n
  · rw [beg_at h, List.getElem?_replicate, if_pos h, if_neg (by omega)]
  · rw [List.getElem?_eq_none (by rw [beg_length]; omega), List.getElem?_eq_none (by simp; omega)]
theorem beg_set {n k : Nat} (h : k < n) : (beg n k).set k (k : Int) = beg n (k + 1) := by
  refine List.ext_getElem? fun i => ?_
  by_cases hi : i < n
  · by_cases e : k = i
    · subst e
      rw [List.getElem?_set_self (by rw [beg_length]; exact h), beg_at hi, if_pos (by omega)]
    · rw [List.getElem?_set_ne e, beg_at hi, beg_at hi]
      by_cases h1 : i < k
      · rw [if_pos h1, if_pos (by omega)]
      · rw [if_neg h1, if_neg (by omega)]
  · rw [List.getElem?_eq_none (by rw [List.length_set, beg_length]; omega), List.getElem?_eq_none (by rw [beg_length]; omega)]
/-- Without v. -/
def begV (n : Nat) (v : Int) : List Int := if 0 ≤ v then (beg n n).set v.toNat (-1) else beg n n
theorem begV_lab {n : Nat} {es : List (Int × Int)} {v : Int} : LabE n es v (begV n v) := by
  refine ⟨?_, fun u hu e => ?_, fun u hu e => ⟨u, ?_, ConnE.refl u⟩⟩
  · unfold begV
    split
    · rw [List.length_set, beg_length]
    · exact beg_length n n
  · unfold begV
    subst e
    rw [if_pos (by omega), Int.toNat_natCast, List.getElem?_set_self (by rw [beg_length]; exact hu)]
  · unfold begV
    split
    · rw [List.getElem?_set_ne (by intro h; omega), beg_at hu, if_pos hu]
    · rw [beg_at hu, if_pos hu]
end Bl
end Go.Proofs.Ytalfpbalekbinaa

/-
  Sets that are joined, as functions: by number the least of its set; trees that keep it; what joins make, whatever their order.
-/
namespace Go.Proofs.Ytalfpbalekbinaa
namespace Co

/-- How many numbers below k have p. -/
def cntTo (p : Nat → Bool) : Nat → Nat
  | 0 => 0
  | k + 1 => cntTo p k + (if p k then 1 else 0)

theorem cntTo_le (p : Nat → Bool) : ∀ k, cntTo p k ≤ k
  | 0 => Nat.le_refl _
  | k + 1 => by
    have := cntTo_le p k
    unfold cntTo
    split <;> omega

theorem cntTo_congr {p q : Nat → Bool} : ∀ k, (∀ i, i < k → p i = q i) → cntTo p k = cntTo q k
  | 0, _ => rfl
  | k + 1, h => by
    have ih := cntTo_congr k (fun i hi => h i (by omega))
    unfold cntTo
    rw [ih, h k (by omega)]

theorem cntTo_or {p q s : Nat → Bool} : ∀ k, (∀ i, i < k → ((s i = (p i || q i)) ∧ (p i && q i) = false)) → cntTo s k = cntTo p k + cntTo q k
  | 0, _ => rfl
  | k + 1, h => by
    have ih := cntTo_or k (fun i hi => h i (by omega))
    obtain ⟨h1, h2⟩ := h k (by omega)
    unfold cntTo
    rw [ih, h1]
    cases hp : p k <;> cases hq : q k <;> rw [hp, hq] at h2 <;> simp at h2 ⊢ <;> omega

theorem cntTo_one (h : Nat) : ∀ k, cntTo (fun i => decide (i = h)) k = if h < k then 1 else 0
  | 0 => rfl
  | k + 1 => by
    have ih := cntTo_one h k
    unfold cntTo
    rw [ih]
    by_cases e : k = h
    · subst e
      simp
    · have e1 : (if decide (k = h) = true then 1 else 0) = 0 := if_neg (by simpa using e)
      rw [e1]
      by_cases hk : h < k
      · rw [if_pos hk, if_pos (by omega)]
      · rw [if_neg hk, if_neg (by omega)]

theorem cntTo_mono {p q : Nat → Bool} : ∀ k, (∀ i, i < k → p i = true → q i = true) → cntTo p k ≤ cntTo q k
  | 0, _ => Nat.le_refl _
  | k + 1, h => by
    have ih := cntTo_mono k (fun i hi => h i (by omega))
    have hk := h k (by omega)
    unfold cntTo
    cases hp : p k
    · simp; omega
    · rw [hk hp]; simp; omega

theorem cntTo_pos {p : Nat → Bool} {x : Nat} : ∀ k, x < k → p x = true → 0 < cntTo p k
  | 0, h, _ => by omega
  | k + 1, h, hp => by
    unfold cntTo
    by_cases e : x = k
    · subst e; rw [hp]; simp
    · have := cntTo_pos k (by omega) hp
      omega

/-- m tells by number the least number of its set. -/
structure Norm (n : Nat) (m : Nat → Nat) : Prop where
  le : ∀ x, x < n → m x ≤ x
  idem : ∀ x, x < n → m (m x) = m x

theorem Norm.lt {n : Nat} {m : Nat → Nat} (h : Norm n m) {x : Nat} (hx : x < n) : m x < n := by
  have := h.le x hx
  omega

def cnt (n : Nat) (m : Nat → Nat) : Nat := cntTo (fun i => decide (m i = i)) n
def size (n : Nat) (m : Nat → Nat) (a : Nat) : Nat := cntTo (fun i => decide (m i = m a)) n
def join (m : Nat → Nat) (a b : Nat) : Nat → Nat := fun x => if m x = max (m a) (m b) then min (m a) (m b) else m x

theorem join_comm (m : Nat → Nat) (a b : Nat) : join m a b = join m b a := by
  funext x
  unfold join
  rw [Nat.max_comm, Nat.min_comm]

theorem norm_id (n : Nat) : Norm n (fun x => x) := ⟨fun _ _ => Nat.le_refl _, fun _ _ => rfl⟩

theorem cnt_id (n : Nat) : cnt n (fun x => x) = n := by
  unfold cnt
  induction n with
  | zero => rfl
  | succ n ih => unfold cntTo; rw [ih]; simp

theorem size_id {n a : Nat} (h : a < n) : size n (fun x => x) a = 1 := by
  unfold size
  rw [cntTo_one, if_pos h]

theorem cnt_le (n : Nat) (m : Nat → Nat) : cnt n m ≤ n := cntTo_le _ _
theorem size_le (n : Nat) (m : Nat → Nat) (a : Nat) : size n m a ≤ n := cntTo_le _ _
theorem size_pos {n : Nat} {m : Nat → Nat} {a : Nat} (h : a < n) : 0 < size n m a := cntTo_pos n h (by simp)

section
variable {n : Nat} {m : Nat → Nat} {a b : Nat}
theorem join_cases (h : Norm n m) (ha : a < n) (hb : b < n) (hne : m a ≠ m b) : ∃ lo hi, lo < hi ∧ hi < n ∧ m lo = lo ∧ m hi = hi ∧ ((lo = m a ∧ hi = m b) ∨ (lo = m b ∧ hi = m a)) ∧ ∀ x, join m a b x = if m x = hi then lo else m x := by
  rcases Nat.lt_or_gt_of_ne hne with hlt | hlt
  · exact ⟨m a, m b, hlt, h.lt hb, h.idem a ha, h.idem b hb, .inl ⟨rfl, rfl⟩, fun x => by unfold join; rw [Nat.max_eq_right (by omega), Nat.min_eq_left (by omega)]⟩
  · exact ⟨m b, m a, hlt, h.lt ha, h.idem b hb, h.idem a ha, .inr ⟨rfl, rfl⟩, fun x => by unfold join; rw [Nat.max_eq_left (by omega), Nat.min_eq_right (by omega)]⟩

theorem Norm.join (h : Norm n m) (ha : a < n) (hb : b < n) (hne : m a ≠ m b) : Norm n (join m a b) := by
  obtain ⟨lo, hi, h1, h2, h3, h4, -, hj⟩ := join_cases h ha hb hne
  refine ⟨fun x hx => ?_, fun x hx => ?_⟩
  · rw [hj]
    have := h.le x hx
    split <;> omega
  · rw [hj x]
    split
    · rw [hj, h3, if_neg (by omega)]
    · rename_i hx'
      rw [hj, h.idem x hx, if_neg hx']

theorem cnt_join (h : Norm n m) (ha : a < n) (hb : b < n) (hne : m a ≠ m b) : cnt n (join m a b) + 1 = cnt n m := by
  obtain ⟨lo, hi, h1, h2, h3, h4, -, hj⟩ := join_cases h ha hb hne
  have e := cntTo_or (p := fun i => decide (join m a b i = i)) (q := fun i => decide (i = hi)) (s := fun i => decide (m i = i)) n (fun i hi' => by
    rw [hj]
    by_cases e : i = hi
    · subst e
      rw [h4, if_pos rfl]
      have : ¬ lo = i := by omega
      simp [this]
    · by_cases e2 : m i = hi
      · rw [if_pos e2, e2]
        have h5 : ¬ hi = i := fun h => e h.symm
        have h6 : ¬ lo = i := fun h => by rw [← h, h3] at e2; omega
        simp [h5, h6, e]
      · rw [if_neg e2]
        simp [e])
  rw [cntTo_one, if_pos h2] at e
  unfold cnt
  omega

theorem join_same (h : Norm n m) (ha : a < n) (hb : b < n) (hne : m a ≠ m b) {x y : Nat} (_ : x < n) (_ : y < n) :
    join m a b x = join m a b y ↔ (m x = m y ∨ ((m x = m a ∨ m x = m b) ∧ (m y = m a ∨ m y = m b))) := by
  obtain ⟨lo, hi, h1, h2, h3, h4, hc, hj⟩ := join_cases h ha hb hne
  rw [hj, hj]
  by_cases ex : m x = hi <;> by_cases ey : m y = hi
  · rw [if_pos ex, if_pos ey]; omega
  · rw [if_pos ex, if_neg ey]; omega
  · rw [if_neg ex, if_pos ey]; omega
  · rw [if_neg ex, if_neg ey]; omega

theorem size_join_in (h : Norm n m) (ha : a < n) (hb : b < n) (hne : m a ≠ m b) {x : Nat} (hx : x < n) (hm : m x = m a ∨ m x = m b) : size n (join m a b) x = size n m a + size n m b := by
  unfold size
  refine cntTo_or n (fun i hi => ?_)
  have := join_same h ha hb hne hi hx
  rw [Bool.eq_iff_iff]
  simp only [decide_eq_true_eq, Bool.or_eq_true, Bool.and_eq_false_iff, decide_eq_false_iff_not, this]
  omega

theorem size_join_out (h : Norm n m) (ha : a < n) (hb : b < n) (hne : m a ≠ m b) {x : Nat} (hx : x < n) (h1 : m x ≠ m a) (h2 : m x ≠ m b) : size n (join m a b) x = size n m x := by
  unfold size
  refine cntTo_congr n (fun i hi => ?_)
  have := join_same h ha hb hne hi hx
  rw [Bool.eq_iff_iff]
  simp only [decide_eq_true_eq, this]
  omega

theorem join_in (h : Norm n m) (ha : a < n) (hb : b < n) (hne : m a ≠ m b) {x : Nat} (hm : m x = m a ∨ m x = m b) : join m a b x = min (m a) (m b) := by
  obtain ⟨lo, hi, h1, h2, h3, h4, hc, hj⟩ := join_cases h ha hb hne
  rw [hj]
  split <;> omega

theorem join_out (h : Norm n m) (ha : a < n) (hb : b < n) (hne : m a ≠ m b) {x : Nat} (h1 : m x ≠ m a) (h2 : m x ≠ m b) : join m a b x = m x := by
  obtain ⟨lo, hi, _, _, _, _, hc, hj⟩ := join_cases h ha hb hne
  rw [hj, if_neg]
  omega
end

/-- Trees that keep the sets m: parents P, sizes S and leasts L of the roots; r: the root; d: how deep at most. -/
structure Forest (n : Nat) (P S L m r d : Nat → Nat) : Prop where
  norm : Norm n m
  lt : ∀ x, x < n → P x < n
  rt : ∀ x, x < n → r x < n
  top : ∀ x, x < n → P (r x) = r x
  up : ∀ x, x < n → r (P x) = r x
  self : ∀ x, x < n → P x = x → r x = x
  deep : ∀ x, x < n → P x ≠ x → d (P x) < d x
  same : ∀ x y, x < n → y < n → (r x = r y ↔ m x = m y)
  sz : ∀ x, x < n → S (r x) = size n m x
  ls : ∀ x, x < n → L (r x) = m x

theorem Forest.rr {n : Nat} {P S L m r d : Nat → Nat} (h : Forest n P S L m r d) {x : Nat} (hx : x < n) : r (r x) = r x := h.self _ (h.rt x hx) (h.top x hx)

theorem forest_id (n : Nat) : Forest n (fun x => x) (fun _ => 1) (fun x => x) (fun x => x) (fun x => x) (fun _ => 0) :=
  ⟨norm_id n, fun _ h => h, fun _ h => h, fun _ _ => rfl, fun _ _ => rfl, fun _ _ _ => rfl, fun _ _ h => absurd rfl h, fun _ _ _ _ => Iff.rfl, fun _ h => (size_id h).symm, fun _ _ => rfl⟩

/-- Function f with y at x. -/
def upd (f : Nat → Nat) (x y : Nat) : Nat → Nat := fun i => if i = x then y else f i
theorem upd_same (f : Nat → Nat) (x y : Nat) : upd f x y x = y := by simp [upd]
theorem upd_other (f : Nat → Nat) {x y i : Nat} (h : i ≠ x) : upd f x y i = f i := by simp [upd, h]

/-- The tree of b is hung below that of a. -/
theorem Forest.hang {n : Nat} {P S L m r d : Nat → Nat} (h : Forest n P S L m r d) {a b : Nat} (ha : a < n) (hb : b < n) (hne : r a ≠ r b) :
    ∃ r' d', Forest n (upd P (r b) (r a)) (upd S (r a) (S (r a) + S (r b))) (upd L (r a) (min (L (r a)) (L (r b)))) (join m a b) r' d' := by
  have hm : m a ≠ m b := fun e => hne ((h.same a b ha hb).2 e)
  have hA := h.rt a ha
  have hB := h.rt b hb
  have hrA := h.rr ha
  have hrB := h.rr hb
  have hkey : ∀ x, x < n → (r x = r a ↔ m x = m a) ∧ (r x = r b ↔ m x = m b) := fun x hx => ⟨h.same x a hx ha, h.same x b hx hb⟩
  refine ⟨fun x => if r x = r b then r a else r x, fun x => if r x = r b then d x + d (r a) + 1 else d x, h.norm.join ha hb hm, fun x hx => ?_, fun x hx => ?_, fun x hx => ?_, fun x hx => ?_, fun x hx hp => ?_, fun x hx hp => ?_, fun x y hx hy => ?_, fun x hx => ?_, fun x hx => ?_⟩
  · unfold upd
    split
    · exact hA
    · exact h.lt x hx
  · split
    · exact hA
    · exact h.rt x hx
  · split
    · rw [upd_other _ hne]; exact h.top a ha
    · rename_i e
      rw [upd_other _ e]
      exact h.top x hx
  · by_cases e : x = r b
    · subst e
      rw [upd_same, hrA, hrB, if_neg hne, if_pos rfl]
    · rw [upd_other _ e, h.up x hx]
  · by_cases e : x = r b
    · subst e
      rw [upd_same] at hp
      exact absurd hp hne
    · rw [upd_other _ e] at hp
      have := h.self x hx hp
      rw [if_neg (by rw [this]; exact e)]
      exact this
  · by_cases e : x = r b
    · subst e
      rw [upd_same, hrA, hrB, if_neg hne, if_pos rfl]
      omega
    · rw [upd_other _ e] at hp ⊢
      have := h.deep x hx hp
      rw [h.up x hx]
      split <;> omega
  · rw [join_same h.norm ha hb hm hx hy]
    obtain ⟨k1, k2⟩ := hkey x hx
    obtain ⟨k3, k4⟩ := hkey y hy
    have k5 := h.same x y hx hy
    rw [← k1, ← k2, ← k3, ← k4, ← k5]
    by_cases ex : r x = r b <;> by_cases ey : r y = r b
    · rw [if_pos ex, if_pos ey]; omega
    · rw [if_pos ex, if_neg ey]; omega
    · rw [if_neg ex, if_pos ey]; omega
    · rw [if_neg ex, if_neg ey]; omega
  · obtain ⟨k1, k2⟩ := hkey x hx
    by_cases ex : r x = r b
    · rw [if_pos ex, upd_same, size_join_in h.norm ha hb hm hx (.inr (k2.1 ex)), h.sz a ha, h.sz b hb]
    · rw [if_neg ex]
      by_cases ea : r x = r a
      · rw [ea, upd_same, size_join_in h.norm ha hb hm hx (.inl (k1.1 ea)), h.sz a ha, h.sz b hb]
      · rw [upd_other _ ea, h.sz x hx, size_join_out h.norm ha hb hm hx (fun e => ea (k1.2 e)) (fun e => ex (k2.2 e))]
  · obtain ⟨k1, k2⟩ := hkey x hx
    by_cases ex : r x = r b
    · rw [if_pos ex, upd_same, join_in h.norm ha hb hm (.inr (k2.1 ex)), h.ls a ha, h.ls b hb]
    · rw [if_neg ex]
      by_cases ea : r x = r a
      · rw [ea, upd_same, join_in h.norm ha hb hm (.inl (k1.1 ea)), h.ls a ha, h.ls b hb]
      · rw [upd_other _ ea, h.ls x hx, join_out h.norm ha hb hm (fun e => ea (k1.2 e)) (fun e => ex (k2.2 e))]

/-- A pair of numbers below n. -/
def isIn (n : Nat) (x : Int) : Prop := 0 ≤ x ∧ x < (n : Int)
instance (n : Nat) (x : Int) : Decidable (isIn n x) := inferInstanceAs (Decidable (_ ∧ _))

/-- Two numbers, in two sets? -/
def apart (n : Nat) (m : Nat → Nat) (a b : Int) : Bool := decide (isIn n a ∧ isIn n b ∧ m a.toNat ≠ m b.toNat)
/-- What Join makes, of any two ints. -/
def joinI (n : Nat) (m : Nat → Nat) (a b : Int) : Nat → Nat := if apart n m a b then join m a.toNat b.toNat else m
def leastI (n : Nat) (m : Nat → Nat) (a : Int) : Int := if isIn n a then (m a.toNat : Int) else -1
def sizeI (n : Nat) (m : Nat → Nat) (a : Int) : Int := if isIn n a then (size n m a.toNat : Int) else 0
def sameI (n : Nat) (m : Nat → Nat) (a b : Int) : Bool := decide (isIn n a ∧ isIn n b ∧ m a.toNat = m b.toNat)

theorem apart_iff {n : Nat} {m : Nat → Nat} {a b : Int} : apart n m a b = true ↔ (isIn n a ∧ isIn n b ∧ m a.toNat ≠ m b.toNat) := by unfold apart; exact decide_eq_true_iff

theorem isIn_lt {n : Nat} {x : Int} (h : isIn n x) : x.toNat < n := by unfold isIn at h; omega

theorem Norm.joinI {n : Nat} {m : Nat → Nat} (h : Norm n m) (a b : Int) : Norm n (joinI n m a b) := by
  unfold Co.joinI
  split
  · rename_i e
    obtain ⟨h1, h2, h3⟩ := apart_iff.1 e
    exact h.join (isIn_lt h1) (isIn_lt h2) h3
  · exact h

/-- All joins of a list, one behind the other. -/
def joins (n : Nat) (js : List (Int × Int)) (m : Nat → Nat) : Nat → Nat := js.foldl (fun m j => joinI n m j.1 j.2) m
theorem joins_snoc (n : Nat) (js : List (Int × Int)) (j : Int × Int) (m : Nat → Nat) : joins n (js ++ [j]) m = joinI n (joins n js m) j.1 j.2 := by simp [joins, List.foldl_append]
theorem Norm.joins {n : Nat} : ∀ (js : List (Int × Int)) {m : Nat → Nat}, Norm n m → Norm n (joins n js m)
  | [], _, h => h
  | j :: js, _, h => Norm.joins js (h.joinI j.1 j.2)

/-- f is one on each of these pairs (those of numbers below n). -/
def Meets (n : Nat) (js : List (Int × Int)) (f : Nat → Nat) : Prop := ∀ j ∈ js, isIn n j.1 → isIn n j.2 → f j.1.toNat = f j.2.toNat

/-- m is what these pairs make, and nothing more. -/
structure Gen (n : Nat) (js : List (Int × Int)) (m : Nat → Nat) : Prop where
  norm : Norm n m
  meets : Meets n js m
  least : ∀ f : Nat → Nat, Meets n js f → ∀ x, x < n → f (m x) = f x

theorem Gen.id (n : Nat) : Gen n [] (fun x => x) := ⟨norm_id n, (fun _ h => by cases h), fun _ _ _ _ => rfl⟩

theorem Gen.keep {n : Nat} {js : List (Int × Int)} {m : Nat → Nat} (h : Gen n js m) {j : Int × Int} (hj : ¬ (isIn n j.1 ∧ isIn n j.2 ∧ m j.1.toNat ≠ m j.2.toNat)) : Gen n (js ++ [j]) m := by
  refine ⟨h.norm, fun k hk h1 h2 => ?_, fun f hf => h.least f (fun k hk => hf k (List.mem_append_left _ hk))⟩
  rcases List.mem_append.1 hk with hk | hk
  · exact h.meets k hk h1 h2
  · obtain rfl := List.mem_singleton.1 hk
    exact Decidable.byContradiction fun e => hj ⟨h1, h2, e⟩

theorem Gen.join {n : Nat} {js : List (Int × Int)} {m : Nat → Nat} (h : Gen n js m) {j : Int × Int} (h1 : isIn n j.1) (h2 : isIn n j.2) (h3 : m j.1.toNat ≠ m j.2.toNat) : Gen n (js ++ [j]) (join m j.1.toNat j.2.toNat) := by
  have ha := isIn_lt h1
  have hb := isIn_lt h2
  refine ⟨h.norm.join ha hb h3, fun k hk k1 k2 => ?_, fun f hf x hx => ?_⟩
  · rcases List.mem_append.1 hk with hk | hk
    · exact (join_same h.norm ha hb h3 (isIn_lt k1) (isIn_lt k2)).2 (.inl (h.meets k hk k1 k2))
    · obtain rfl := List.mem_singleton.1 hk
      exact (join_same h.norm ha hb h3 (isIn_lt k1) (isIn_lt k2)).2 (.inr ⟨.inl rfl, .inr rfl⟩)
  · have hf' : Meets n js f := fun k hk => hf k (List.mem_append_left _ hk)
    have hj := hf j (List.mem_append_right _ (List.mem_singleton_self _)) h1 h2
    have ea := h.least f hf' _ ha
    have eb := h.least f hf' _ hb
    have ex := h.least f hf' x hx
    obtain ⟨lo, hi, _, _, _, _, hc, hjj⟩ := join_cases h.norm ha hb h3
    rw [hjj]
    split
    · rename_i e
      rcases hc with ⟨e1, e2⟩ | ⟨e1, e2⟩
      · rw [e1, ea, hj, ← eb, ← e2, ← e, ex]
      · rw [e1, eb, ← hj, ← ea, ← e2, ← e, ex]
    · exact ex

theorem Gen.joinI {n : Nat} {js : List (Int × Int)} {m : Nat → Nat} (h : Gen n js m) (j : Int × Int) : Gen n (js ++ [j]) (joinI n m j.1 j.2) := by
  unfold Co.joinI
  split
  · rename_i e
    obtain ⟨h1, h2, h3⟩ := apart_iff.1 e
    exact h.join h1 h2 h3
  · rename_i e
    exact h.keep (fun h => e (apart_iff.2 h))

theorem gen_joins (n : Nat) (js : List (Int × Int)) : Gen n js (joins n js (fun x => x)) := by
  suffices h : ∀ (ks js : List (Int × Int)) (m : Nat → Nat), Gen n js m → Gen n (js ++ ks) (joins n ks m) by simpa using h js [] _ (Gen.id n)
  intro ks
  induction ks with
  | nil => intro js m h; rw [List.append_nil]; exact h
  | cons k ks ih =>
    intro js m h
    have := ih _ _ (h.joinI k)
    rw [List.append_assoc] at this
    exact this

/-- Pairs that say the same make the same sets. -/
theorem Gen.unique {n : Nat} {js ks : List (Int × Int)} {m k : Nat → Nat} (h : Gen n js m) (g : Gen n ks k) (h1 : Meets n js k) (h2 : Meets n ks m) {x : Nat} (hx : x < n) : m x = k x := by
  have e1 := h.least k h1 x hx
  have e2 := g.least m h2 x hx
  have l1 := h.norm.le x hx
  have l2 := g.norm.le x hx
  have l3 := h.norm.le (k x) (by omega)
  have l4 := g.norm.le (m x) (by omega)
  omega

end Co
end Go.Proofs.Ytalfpbalekbinaa

/-
  Blocks, pure: classes of edges as they are joined pair by pair, by the edges as a list.
-/
namespace Go.Proofs.Ytalfpbalekbinaa
namespace Bl

def othE (p : Int × Int) (v : Int) : Int := if p.1 = v then p.2 else p.1
/-- Two edges that end at v, and whose other ends hang together without v. -/
def PairE (es : List (Int × Int)) (v i k : Nat) : Prop := ∃ p q : Int × Int, es[i]? = some p ∧ es[k]? = some q ∧ (p.1 = (v : Int) ∨ p.2 = (v : Int)) ∧ (q.1 = (v : Int) ∨ q.2 = (v : Int)) ∧ ConnE es v (othE p v).toNat (othE q v).toNat

/-- The classes m are those that pairs have made; all pairs of D are among them. -/
def ClE (n : Nat) (es : List (Int × Int)) (m : Nat → Nat) (D : Nat → Nat → Nat → Prop) : Prop :=
  ∃ js : List (Int × Int), Co.Gen es.length js m ∧ (∀ a b : Nat, ((a : Int), (b : Int)) ∈ js → ∃ u, u < n ∧ PairE es u a b) ∧ ∀ u a b : Nat, u < n → a < b → b < es.length → PairE es u a b → D u a b → ((a : Int), (b : Int)) ∈ js

theorem ClE.start (n : Nat) (es : List (Int × Int)) : ClE n es (fun x => x) (fun _ _ _ => False) := ⟨[], Co.Gen.id _, (fun _ _ h => by cases h), fun _ _ _ _ _ _ _ h => h.elim⟩
theorem ClE.more {n : Nat} {es : List (Int × Int)} {m : Nat → Nat} {D D' : Nat → Nat → Nat → Prop} (h : ClE n es m D) (hd : ∀ u a b : Nat, u < n → a < b → b < es.length → PairE es u a b → D' u a b → D u a b) : ClE n es m D' := by
  obtain ⟨js, h1, h2, h3⟩ := h
  exact ⟨js, h1, h2, fun u a b hu hab hb hp hd' => h3 u a b hu hab hb hp (hd u a b hu hab hb hp hd')⟩
theorem join_noop {m : Nat → Nat} {a b : Nat} (h : m a = m b) : Co.join m a b = m := by
  funext x
  unfold Co.join
  rw [h, Nat.max_self, Nat.min_self]
  split
  · next e => exact e.symm
  · rfl
theorem ClE.join {n : Nat} {es : List (Int × Int)} {m : Nat → Nat} {D : Nat → Nat → Nat → Prop} (h : ClE n es m D) {v i k : Nat} (hv : v < n) (hi : i < es.length) (hk : k < es.length) (hp : PairE es v i k) : ClE n es (Co.join m i k) (fun u a b => D u a b ∨ (u = v ∧ a = i ∧ b = k)) := by
  obtain ⟨js, h1, h2, h3⟩ := h
  have hj := h1.joinI ((i : Int), (k : Int))
  have e : Co.joinI es.length m (i : Int) (k : Int) = Co.join m i k := by
    unfold Co.joinI
    by_cases hm : m i = m k
    · rw [join_noop (by simpa using hm), join_noop hm]
      split <;> rfl
    · rw [if_pos (Co.apart_iff.2 ⟨⟨by omega, by omega⟩, ⟨by omega, by omega⟩, by simpa using hm⟩), Int.toNat_natCast, Int.toNat_natCast]
  dsimp only at hj
  rw [e] at hj
  refine ⟨_, hj, fun a b hab => ?_, fun u a b hu hab hb hq hd => ?_⟩
  · rcases List.mem_append.1 hab with hab | hab
    · exact h2 a b hab
    · have := List.mem_singleton.1 hab
      injection this with e1 e2
      have ea : a = i := by omega
      have eb : b = k := by omega
      subst ea eb
      exact ⟨v, hv, hp⟩
  · rcases hd with hd | ⟨rfl, rfl, rfl⟩
    · exact List.mem_append_left _ (h3 u a b hu hab hb hq hd)
    · exact List.mem_append_right _ (List.mem_singleton.2 rfl)

/-- What has been come by at vertex v, edge i, edge k. -/
def Came (v i k u a b : Nat) : Prop := u < v ∨ (u = v ∧ (a < i ∨ (a = i ∧ b < k)))
end Bl
end Go.Proofs.Ytalfpbalekbinaa

/-
  The document's small functions of layer 9: an edge's ends, a number's place in a list.
-/
namespace Go.Proofs.Ytalfpbalekbinaa
open Go.RowKit Go.Sort

set_option maxRecDepth 100000 in
set_option maxHeartbeats 1000000 in
theorem at9_any (a b v : Int) (w : World) : Calls Try.prog 34 #[.agg #[.int .i64 a, .int .i64 b], .int .i64 v] w fun e w' => e = .returned (.bool (decide (a = v ∨ b = v))) ∧ Below w.heap.size w w' := by
  have hbw0 : Below w.heap.size w (w.alloc (.cells #[.int .i64 a, .int .i64 b] 49)) := (Below.refl _ _).alloc (Nat.le_refl _) _
  have HB := Nu.hid hbw0
  clear hbw0
  by_cases h1 : a = v
  · rw [decide_eq_true (Or.inl h1 : a = v ∨ b = v)]
    have d1 : (a == v) = true := by simp [h1]
    clear h1
    go_enter Try.func34, Try.ntmps34
    go_wp2
    go_ret
    exact ⟨rfl, HB.out⟩
  · have d1 : (a == v) = false := by simp [h1]
    by_cases h2 : b = v
    · rw [decide_eq_true (Or.inr h2 : a = v ∨ b = v)]
      have d2 : (b == v) = true := by simp [h2]
      clear h1 h2
      go_enter Try.func34, Try.ntmps34
      go_wp2
      go_ret
      exact ⟨rfl, HB.out⟩
    · have d2 : (b == v) = false := by simp [h2]
      rw [decide_eq_false (fun h : a = v ∨ b = v => h.elim h1 h2)]
      go_enter Try.func34, Try.ntmps34
      go_wp2
      go_ret
      exact ⟨rfl, HB.out⟩

set_option maxRecDepth 100000 in
set_option maxHeartbeats 1000000 in
theorem other9_any (a b v : Int) (w : World) : Calls Try.prog 50 #[.agg #[.int .i64 a, .int .i64 b], .int .i64 v] w fun e w' => e = .returned (.int .i64 (if a = v then b else a)) ∧ Below w.heap.size w w' := by
  have hbw0 : Below w.heap.size w (w.alloc (.cells #[.int .i64 a, .int .i64 b] 49)) := (Below.refl _ _).alloc (Nat.le_refl _) _
  have HB := Nu.hid hbw0
  clear hbw0
  by_cases h1 : a = v
  · rw [if_pos h1]
    have d1 : (a == v) = true := by simp [h1]
    clear h1
    go_enter Try.func50, Try.ntmps50
    go_wp2
    go_ret
    exact ⟨rfl, HB.out⟩
  · rw [if_neg h1]
    have d1 : (a == v) = false := by simp [h1]
    go_enter Try.func50, Try.ntmps50
    go_wp2
    go_ret
    exact ⟨rfl, HB.out⟩

/-- Where a number first stands in a list, or -1. -/
def Bl.place : List Int → Int → Int
  | [], _ => -1
  | y :: l, x => if y = x then 0 else if Bl.place l x = -1 then -1 else Bl.place l x + 1
/-- As the loop finds it. -/
theorem Bl.place_at : ∀ {l : List Int} {x : Int} {i : Nat}, l[i]? = some x → (∀ j : Nat, j < i → l[j]? ≠ some x) → Bl.place l x = (i : Int)
  | [], x, i, h, _ => by simp at h
  | y :: l, x, 0, h, _ => by
    have : y = x := by simpa using h
    unfold Bl.place
    rw [if_pos this]
    rfl
  | y :: l, x, i + 1, h, hn => by
    have hy : y ≠ x := fun e => hn 0 (by omega) (by simp [e])
    have := Bl.place_at (l := l) (x := x) (i := i) (by simpa using h) (fun j hj => by simpa using hn (j + 1) (by omega))
    unfold Bl.place
    rw [if_neg hy, this, if_neg (by omega)]
    omega
theorem Bl.place_not : ∀ {l : List Int} {x : Int}, (∀ j : Nat, l[j]? ≠ some x) → Bl.place l x = -1
  | [], x, _ => rfl
  | y :: l, x, hn => by
    have hy : y ≠ x := fun e => hn 0 (by simp [e])
    have := Bl.place_not (l := l) (x := x) (fun j => by simpa using hn (j + 1))
    unfold Bl.place
    rw [if_neg hy, this, if_pos rfl]

set_option maxRecDepth 100000 in
set_option maxHeartbeats 4000000 in
theorem place9_any (ao : Option Addr) (c : Nat) (l : List Int) (x : Int) (w : World) (h : IntsAt w ao l) (hn : l.length ≤ 4194304) : Calls Try.prog 35 #[.slice ao l.length c, .int .i64 x] w fun e w' => e = .returned (.int .i64 (Bl.place l x)) ∧ w' = w := by
  have HR := Nu.hid h
  clear h
  go_enter Try.func35, Try.ntmps35
  go_wp2
  go_loopw [5] (fun cv wr => ∃ k : Nat, k ≤ l.length ∧ cv = .int .i64 (k : Int) ∧ (∀ j : Nat, j < k → l[j]? ≠ some x) ∧ wr = w) (fun cv _ => l.length - (intOf cv).toNat)
  case atStart => exact ⟨0, Nat.zero_le _, rfl, fun j hj => by omega, rfl⟩
  case round =>
    obtain ⟨k, hk, rfl, hq, hwr⟩ := hrel
    obtain rfl := hwr.symm
    have HQ := Nu.hid hq
    clear hwr hq
    by_cases hkn : k < l.length
    · have hlti : (k : Int) < (l.length : Int) := by omega
      have hk0 : (0 : Int) ≤ (k : Int) := by omega
      obtain ⟨y, hy⟩ : ∃ y, l[k]? = some y := ⟨_, List.getElem?_eq_getElem hkn⟩
      obtain ⟨b, o, rfl, c0⟩ := HR.out k y hy
      by_cases he : y = x
      · have hd : (y == x) = true := by simp [he]
        have HP := Nu.hid (Bl.place_at (by rw [hy, he]) HQ.out)
        clear hy he
        go_wp2
        go_ret
        exact ⟨by rw [HP.out]; rfl, rfl⟩
      · have hd : (y == x) = false := by simp [he]
        have HN : Hid (∀ j : Nat, j < k + 1 → l[j]? ≠ some x) := by
          intro j hj
          by_cases e : j = k
          · rw [e, hy]
            simpa using he
          · exact HQ.out j (by omega)
        clear hy he
        go_wp2
        go_roundw
        case rel => exact ⟨k + 1, by omega, by go_num, HN.out, by first | rfl | trivial⟩
        case measure => simp [intOf]; omega
    · have hlti : ¬ (k : Int) < (l.length : Int) := by omega
      have HP := Nu.hid (Bl.place_not (l := l) (x := x) (fun j => by
        by_cases e : j < k
        · exact HQ.out j e
        · rw [List.getElem?_eq_none (by omega)]
          simp))
      go_wp2
      go_ret
      exact ⟨by rw [HP.out]; rfl, rfl⟩

end Go.Proofs.Ytalfpbalekbinaa

/-
  The document's Parts: what hangs together without one vertex.
-/
namespace Go.Proofs.Ytalfpbalekbinaa
open Go.RowKit Go.Sort

/-- The number in a cell, none below 0. -/
def Bl.cellN (w : World) (g i : Nat) : Nat :=
  match w.cell? ⟨g, i, none⟩ with
  | some (.int _ z) => z.toNat
  | _ => 0
theorem Bl.cellN_tot {w : World} {g n : Nat} {l : List Int} (h : IntsBlk w g l) (hl : l.length = n) : Bl.tot (Bl.cellN w g) n = Bl.tot (Bl.val l) n := Bl.tot_congr n fun i hi => by
  obtain ⟨x, hx⟩ : ∃ x, l[i]? = some x := ⟨_, List.getElem?_eq_getElem (by omega)⟩
  unfold Bl.cellN
  rw [h.cell hx, Bl.val_at hx]
def Bl.boolN : Value → Nat
  | .bool true => 1
  | _ => 0

def PartsPost (n : Nat) (es : List (Int × Int)) (v : Int) (w : World) (e : Ending) (w' : World) : Prop :=
  ∃ (l : List Int) (g : Nat), e = .returned (.slice (some ⟨g, 0, none⟩) n n) ∧ w.heap.size ≤ g ∧ IntsBlk w' g l ∧ Bl.LabE n es v l ∧ Bl.Quiet es v l es.length ∧ Below w.heap.size w w'

set_option maxRecDepth 100000 in
set_option maxHeartbeats 16000000 in
theorem parts_any (n : Nat) (ao : Option Addr) (cap : Nat) (es : List (Int × Int)) (v : Int) (w : World) (he : EdgesAt w ao es) (hval : Si.Val n es) (hv1 : -1 ≤ v) (hv2 : v < (n : Int)) :
    Calls Try.prog 49 #[graphVal n ao es.length cap, .int .i64 v] w (PartsPost n es v w) := by
  obtain ⟨i0, hi, hz0, hz1, hz2⟩ := info_parts Try.infoNum
  have HE := Nu.hid he
  have hfew := hval.few
  have hhi := hval.hi
  have HVAL := Nu.hid hval
  unfold graphVal
  clear he hval
  have hbw0 : Below w.heap.size w (w.alloc (.cells #[.int .i64 n, .slice ao es.length cap] 24)) := (Below.refl _ _).alloc (Nat.le_refl _) _
  have hG : (w.alloc (.cells #[.int .i64 n, .slice ao es.length cap] 24)).heap[w.heap.size]? = some (.cells #[.int .i64 n, .slice ao es.length cap] 24 (0, 0)) := heap_alloc_new w _
  have hsz : (w.alloc (.cells #[.int .i64 n, .slice ao es.length cap] 24)).heap.size = w.heap.size + 1 := by simp
  obtain ⟨x0, x1, -⟩ := pair_cells hG
  obtain ⟨w1, hw1⟩ : ∃ w1, w1 = w.alloc (.cells #[.int .i64 n, .slice ao es.length cap] 24) := ⟨_, rfl⟩
  rw [← hw1] at hbw0 hG hsz
  have HB1 := Nu.hid hbw0
  have HG1 := Nu.hid hG
  have HW1 := Nu.hid hw1
  clear hbw0 hG hw1
  go_enter Try.func49, Try.ntmps49
  go_wp2_with (at_make; rw [← HW1.out]; refine wpList_make_full _ rfl _ _ 26 rfl w1.heap.size 3 i0 (.int .i64 0) 1 Try.underlying26 hi hz0 hz1 _ _ _ _ n rfl rfl rfl rfl (by rw [hz2]; omega) (by unfold maxLen; omega) (Nat.le_refl _) ?_; refine Hid.out ?_)
  refine Nu.hid ?_
  intro w2 hrow hg2
  rw [made_zeros] at hrow
  have hik := ints_of_row hrow
  rw [← Bl.beg_zero] at hik
  have hb2 : Below w1.heap.size w1 w2 := (Below.refl _ _).grown hg2 (Nat.le_refl _) (fun j hj => by cases hj)
  have HB2 := Nu.hid (HB1.out.trans (hb2.mono HB1.out.size))
  have HG2 := Nu.hid ((hb2.block _ (by omega)).trans HG1.out)
  have HI2 := Nu.hid hik
  have hs2 := hik.lt
  clear hrow hg2 hik hb2 x0 x1
  go_wp2
  go_loopw [6] (fun cv wr => ∃ k : Nat, k ≤ n ∧ cv = .int .i64 (k : Int) ∧ IntsBlk wr (w.heap.size + 1) (Bl.beg n k) ∧ wr.heap[w.heap.size]? = some (.cells #[.int .i64 n, .slice ao es.length cap] 24 (0, 0)) ∧ Below w.heap.size w wr) (fun cv _ => n - (intOf cv).toNat)
  case atStart => exact ⟨0, Nat.zero_le _, rfl, HI2.out, HG2.out, HB2.out⟩
  case round =>
    obtain ⟨k, hk, rfl, hI, hg, hb⟩ := hrel
    have HI := Nu.hid hI
    have HG := Nu.hid hg
    have HB := Nu.hid hb
    obtain ⟨x0, x1, -⟩ := pair_cells hg
    have hsl := hI.lt
    have cf := hI.free
    by_cases hkn : k < n
    · have hlti : (k : Int) < (n : Int) := by omega
      have hk0 : (0 : Int) ≤ (k : Int) := by omega
      have cc := hI.cell (Bl.beg_at (k := k) hkn)
      have n1 := hI.set k (k : Int)
      rw [Bl.beg_set hkn] at n1
      have HN := Nu.hid n1
      have HGN : Hid ((wr.setCell ⟨(w.heap.size + 1), k, none⟩ (.int .i64 (k : Int))).heap[w.heap.size]? = some (.cells #[.int .i64 n, .slice ao es.length cap] 24 (0, 0))) := (heap_setCell_other wr ⟨(w.heap.size + 1), k, none⟩ w.heap.size _ (by show w.heap.size ≠ (w.heap.size + 1); omega)).trans hg
      have HBN := Nu.hid (hb.setCell (p := ⟨(w.heap.size + 1), k, none⟩) (by show w.heap.size ≤ (w.heap.size + 1); omega) (.int .i64 (k : Int)))
      clear hI hg hb n1
      go_wp2
      go_roundw
      case rel => exact ⟨k + 1, by omega, by go_num, HN.out, HGN.out, HBN.out⟩
      case measure => simp [intOf]; omega
    · have hlti : ¬ (k : Int) < (n : Int) := by omega
      obtain rfl : k = n := by omega
      clear hI hg hb
      go_upto_if 25 with fail
      go_cut [5] from 25 to 28 (fun x wr => x = .slice (some ⟨w.heap.size + 1, 0, none⟩) k k ∧ IntsBlk wr (w.heap.size + 1) (Bl.begV k v) ∧ wr.heap[w.heap.size]? = some (.cells #[.int .i64 k, .slice ao es.length cap] 24 (0, 0)) ∧ Below w.heap.size w wr)
      case first =>
        by_cases hv0 : 0 ≤ v
        · obtain ⟨u, rfl⟩ : ∃ u : Nat, v = (u : Int) := ⟨v.toNat, by omega⟩
          have hu : u < k := by omega
          have n1 := HI.out.set u (-1)
          have HBV : Hid (Bl.begV k (u : Int) = (Bl.beg k k).set u (-1)) := by
            show Bl.begV k (u : Int) = _
            unfold Bl.begV
            rw [if_pos hv0, Int.toNat_natCast]
          have cc := HI.out.cell (Bl.beg_at (k := k) hu)
          have HN := Nu.hid n1
          have HGN : Hid ((wr.setCell ⟨w.heap.size + 1, u, none⟩ (.int .i64 (-1))).heap[w.heap.size]? = some (.cells #[.int .i64 k, .slice ao es.length cap] 24 (0, 0))) := (heap_setCell_other wr ⟨w.heap.size + 1, u, none⟩ w.heap.size _ (by show w.heap.size ≠ w.heap.size + 1; omega)).trans HG.out
          have HBN := Nu.hid (HB.out.setCell (p := ⟨w.heap.size + 1, u, none⟩) (by show w.heap.size ≤ w.heap.size + 1; omega) (.int .i64 (-1)))
          clear n1
          go_wp2
          go_meet
          exact ⟨rfl, by rw [HBV.out]; exact HN.out, HGN.out, HBN.out⟩
        · have HBV : Hid (Bl.begV k v = Bl.beg k k) := by
            show Bl.begV k v = _
            unfold Bl.begV
            rw [if_neg hv0]
          go_wp2
          go_meet
          exact ⟨rfl, by rw [HBV.out]; exact HI.out, HG.out, HB.out⟩
      case rest =>
        obtain ⟨rfl, hI, hg, hb⟩ := hcut
        have HI3 := Nu.hid hI
        have HG3 := Nu.hid hg
        have HB3 := Nu.hid hb
        clear hI hg hb HI HG HB cf x0 x1
        go_wp2
        go_loopw [7] (fun cb wr => ∃ (ch : Bool) (l : List Int), cb = .bool ch ∧ IntsBlk wr (w.heap.size + 1) l ∧ Bl.LabE k es v l ∧ (ch = false → Bl.Quiet es v l es.length) ∧ wr.heap[w.heap.size]? = some (.cells #[.int .i64 k, .slice ao es.length cap] 24 (0, 0)) ∧ Below w.heap.size w wr) (fun cb wr => 2 * Bl.tot (Bl.cellN wr (w.heap.size + 1)) k + Bl.boolN cb)
        case atStart => exact ⟨true, _, rfl, HI3.out, Bl.begV_lab, fun h => (by cases h), HG3.out, HB3.out⟩
        case round =>
          obtain ⟨ch, l0, rfl, hI0, hL0, hQ0, hg0, hb0⟩ := hrel
          obtain ⟨w0, rfl⟩ : ∃ w0, w0 = wr := ⟨wr, rfl⟩
          have HI0 := Nu.hid hI0
          have HL0 := Nu.hid hL0
          have HQ0 := Nu.hid hQ0
          have HG0 := Nu.hid hg0
          have HB0 := Nu.hid hb0
          cases ch with
          | false =>
            clear hI0 hL0 hQ0 hg0 hb0
            go_wp2
            go_ret
            exact ⟨l0, w.heap.size + 1, rfl, by omega, HI0.out, HL0.out, HQ0.out (by first | rfl | trivial), HB0.out⟩
          | true =>
            clear hI0 hL0 hQ0 hg0 hb0
            go_wp2
            go_loopw [7, 8] (fun cb cv wr => ∃ (i : Nat) (ch : Bool) (l : List Int), i ≤ es.length ∧ cv = .int .i64 (i : Int) ∧ cb = .bool ch ∧ IntsBlk wr (w.heap.size + 1) l ∧ Bl.PassE k es v l0 l i ch ∧ wr.heap[w.heap.size]? = some (.cells #[.int .i64 k, .slice ao es.length cap] 24 (0, 0)) ∧ Below w.heap.size w wr) (fun _ cv _ => es.length - (intOf cv).toNat)
            case atStart => exact ⟨0, false, l0, Nat.zero_le _, rfl, rfl, HI0.out, Bl.PassE.start HL0.out, HG0.out, HB0.out⟩
            case round =>
              obtain ⟨i, ch, l, hi', rfl, rfl, hI, hP, hg, hb⟩ := hrel
              have HI := Nu.hid hI
              have HP := Nu.hid hP
              have HG := Nu.hid hg
              have HB := Nu.hid hb
              obtain ⟨x0, x1, -⟩ := pair_cells hg
              by_cases hlt : i < es.length
              · have hlti : (i : Int) < (es.length : Int) := by omega
                have hi0' : (0 : Int) ≤ (i : Int) := by omega
                obtain ⟨q, hq⟩ : ∃ q, es[i]? = some q := ⟨_, List.getElem?_eq_getElem hlt⟩
                have hok := HVAL.out.each i q hq
                unfold Si.ok at hok
                obtain ⟨b, o, rfl, c0, c1⟩ := (HE.out.later hb) i q hq
                have hmem := List.mem_of_getElem? hq
                obtain ⟨qu, qv⟩ := q
                dsimp only at c0 c1 hok
                obtain ⟨u, rfl⟩ : ∃ u : Nat, qu = (u : Int) := ⟨qu.toNat, by omega⟩
                obtain ⟨y, rfl⟩ : ∃ y : Nat, qv = (y : Int) := ⟨qv.toNat, by omega⟩
                have hum : u < k := by omega
                have hym : y < k := by omega
                have hll := hP.lab.len
                obtain ⟨a, ha⟩ : ∃ a, l[u]? = some a := ⟨_, List.getElem?_eq_getElem (by omega)⟩
                obtain ⟨d, hd⟩ : ∃ d, l[y]? = some d := ⟨_, List.getElem?_eq_getElem (by omega)⟩
                have cu := hI.cell ha
                have cy := hI.cell hd
                have cf := hI.free
                have u0 : (0 : Int) ≤ (u : Int) := by omega
                have u1 : (u : Int) < (k : Int) := by omega
                have v0 : (0 : Int) ≤ (y : Int) := by omega
                have v1 : (y : Int) < (k : Int) := by omega
                by_cases h1 : (u : Int) = v
                · have d1 : ((u : Int) == v) = true := by simp [h1]
                  have HP1 := Nu.hid (hP.skip hq (.inl h1))
                  clear hI hP hg hb hq hok hmem ha hd h1
                  go_wp2_with fail
                  go_quiet (fail)
                  go_wp2
                  go_roundw
                  case rel => exact ⟨i + 1, ch, l, by omega, by go_num, rfl, HI.out, HP1.out, HG.out, below_drewN HB.out _⟩
                  case measure => simp [intOf]; omega
                · have d1 : ((u : Int) == v) = false := by simp [h1]
                  by_cases h2 : (y : Int) = v
                  · have d2 : ((y : Int) == v) = true := by simp [h2]
                    have HP1 := Nu.hid (hP.skip hq (.inr (.inl h2)))
                    clear hI hP hg hb hq hok hmem ha hd h1 h2
                    go_wp2_with fail
                    go_quiet (fail)
                    go_wp2
                    go_roundw
                    case rel => exact ⟨i + 1, ch, l, by omega, by go_num, rfl, HI.out, HP1.out, HG.out, below_drewN HB.out _⟩
                    case measure => simp [intOf]; omega
                  · have d2 : ((y : Int) == v) = false := by simp [h2]
                    have hc := Bl.ConnE.edge hmem h1 h2
                    rcases Int.lt_trichotomy a d with h3 | h3 | h3
                    · have d3 : (a == d) = false := by simp; omega
                      have HP1 := Nu.hid (hP.put hym hum h2 h1 hc.symm hd ha h3)
                      have HN1 := Nu.hid (hI.set y a)
                      have HG1 : Hid ((wr.setCell ⟨w.heap.size + 1, y, none⟩ (.int .i64 a)).heap[w.heap.size]? = some (.cells #[.int .i64 k, .slice (some ⟨b, o, none⟩) es.length cap] 24 (0, 0))) := (heap_setCell_other wr ⟨w.heap.size + 1, y, none⟩ w.heap.size _ (by show w.heap.size ≠ w.heap.size + 1; omega)).trans hg
                      have HB1' := Nu.hid (hb.setCell (p := ⟨w.heap.size + 1, y, none⟩) (by show w.heap.size ≤ w.heap.size + 1; omega) (.int .i64 a))
                      clear hI hP hg hb hq hok hmem ha hd h1 h2 hc
                      go_wp2_with fail
                      go_quiet (fail)
                      go_wp2_with fail
                      go_quiet (fail)
                      go_wp2
                      go_roundw
                      case rel => exact ⟨i + 1, true, _, by omega, by go_num, rfl, HN1.out, HP1.out, HG1.out, by first | exact HB1'.out | exact below_drewN HB1'.out _ | exact (below_drewN HB.out _).setCell (by show w.heap.size ≤ w.heap.size + 1; omega) _ | exact below_drewN ((below_drewN HB.out _).setCell (by show w.heap.size ≤ w.heap.size + 1; omega) _) _⟩
                      case measure => simp [intOf]; omega
                    · have d3 : (a == d) = true := by simp [h3]
                      have HP1 := Nu.hid (hP.skip hq (.inr (.inr (by dsimp only; rw [Int.toNat_natCast, Int.toNat_natCast, ha, hd, h3]))))
                      clear hI hP hg hb hq hok hmem ha hd h1 h2 hc h3
                      go_wp2_with fail
                      go_quiet (fail)
                      go_wp2
                      go_roundw
                      case rel => exact ⟨i + 1, ch, l, by omega, by go_num, rfl, HI.out, HP1.out, HG.out, below_drewN HB.out _⟩
                      case measure => simp [intOf]; omega
                    · have d3 : (a == d) = false := by simp; omega
                      have d4 : ¬ a < d := by omega
                      have HP1 := Nu.hid (hP.put hum hym h1 h2 hc ha hd h3)
                      have HN1 := Nu.hid (hI.set u d)
                      have HG1 : Hid ((wr.setCell ⟨w.heap.size + 1, u, none⟩ (.int .i64 d)).heap[w.heap.size]? = some (.cells #[.int .i64 k, .slice (some ⟨b, o, none⟩) es.length cap] 24 (0, 0))) := (heap_setCell_other wr ⟨w.heap.size + 1, u, none⟩ w.heap.size _ (by show w.heap.size ≠ w.heap.size + 1; omega)).trans hg
                      have HB1' := Nu.hid (hb.setCell (p := ⟨w.heap.size + 1, u, none⟩) (by show w.heap.size ≤ w.heap.size + 1; omega) (.int .i64 d))
                      clear hI hP hg hb hq hok hmem ha hd h1 h2 hc
                      go_wp2_with fail
                      go_quiet (fail)
                      go_wp2_with fail
                      go_quiet (fail)
                      go_wp2
                      go_roundw
                      case rel => exact ⟨i + 1, true, _, by omega, by go_num, rfl, HN1.out, HP1.out, HG1.out, by first | exact HB1'.out | exact below_drewN HB1'.out _ | exact (below_drewN HB.out _).setCell (by show w.heap.size ≤ w.heap.size + 1; omega) _ | exact below_drewN ((below_drewN HB.out _).setCell (by show w.heap.size ≤ w.heap.size + 1; omega) _) _⟩
                      case measure => simp [intOf]; omega
              · have hd : ¬ ((i : Int) < (es.length : Int)) := by omega
                have HNO : Hid (ch = false → Bl.Quiet es v l es.length) := fun h => by
                  have := hP.no h
                  have e : i = es.length := by omega
                  rw [e] at this
                  exact this
                clear hI hP hg hb
                go_wp2
                go_roundw
                case rel => exact ⟨ch, l, rfl, HI.out, HP.out.lab, HNO.out, HG.out, HB.out⟩
                case measure =>
                  rw [Bl.cellN_tot HI.out HP.out.lab.len, Bl.cellN_tot HI0.out HL0.out.len]
                  have h1 := HP.out.less
                  have h2 := HP.out.yes
                  cases ch
                  · simp [Bl.boolN]; omega
                  · have := h2 rfl
                    simp [Bl.boolN]
                    omega
end Go.Proofs.Ytalfpbalekbinaa
