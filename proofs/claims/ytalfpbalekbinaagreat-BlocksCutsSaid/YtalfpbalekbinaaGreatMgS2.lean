import Derived.Test.YtalfpbalekbinaaGreatMg09
import Derived.Maps.AppendAt
import Derived.Sort.Grow
import Derived.Test.YtalfpbalekbinaaGreatMg19
import Derived.Test.YtalfpbalekbinaaGreatMgS1
import Derived.Test.YtalfpbalekbinaaGreatMg01
/-
  'append(v, z)' of a list of one's own.
-/
namespace Go.Proofs.YtalfpbalekbinaaGreat
open Go.RowKit Go.Sort

/-- 'append(v, z)', v a list of one's own. -/
theorem wpList_push {ops : Array Oper} {rest : List Oper} {o : Oper} {a : Act} {Q : Exit → Act → World → Prop} (hgd : o.guard = none) (s x : Operand)
    (ho : o.op = .call { callee := .builtin .append, args := #[s, x], argTypes := #[26, 26] }) (W : World) (B : Nat) (v : Value) (l : List Int) (z : Int) (hown : OwnZ W B v l)
    (hB : B ≤ W.heap.size) (hl : l.length ≤ 17592186044000) (hs : a.eval s = v) (hx : a.eval x = .slice (some ⟨W.heap.size, 0, none⟩) 1 1)
    (h : ∀ v' w', OwnZ w' B v' (l ++ [z]) → (W.alloc (.cells #[.int .i64 z] 3)).grownBy w' v.ownBlock → (v'.ownBlock = v.ownBlock ∨ v'.ownBlock = some (W.heap.size + 1)) → Below B W w' → wpList Tryz.prog ops Q rest (a.put o.dst v') w') :
    wpList Tryz.prog ops Q (o :: rest) a (W.alloc (.cells #[.int .i64 z] 3)) := by
  obtain ⟨i0, hi, hz0, hz1, hz2⟩ := info_parts Tryz.infoNum
  have hb0 : Below B W (W.alloc (.cells #[.int .i64 z] 3)) := (Below.refl _ _).alloc hB _
  refine wpList_append_own_at _ hgd s x 26 ho B 3 i0 (.int .i64 0) 1 8 Tryz.underlying26 hi hz0 hz1 hz2 rfl (by decide) _ _ _ hs (World.ownsRow.alloc hown _) ⟨W.heap.size, 0, none⟩ 1 1 [.int .i64 z] hx rfl (cell_one_new _ _ _) (by simp [Value.oneCell']) (by unfold maxLen; omega) (by omega) (by simp; omega) ?_
  intro v' w' hown' hg _ hat
  have ho' : OwnZ w' B v' (l ++ [z]) := by
    unfold OwnZ
    rw [List.length_append, List.map_append]
    exact hown'
  have hoB : ∀ b, v.ownBlock = some b → B ≤ b := fun b hb => (World.ownsRow.lt hown b hb).1
  refine h v' w' ho' hg (by simpa using hat) (hb0.grown hg (by simp; omega) hoB)

end Go.Proofs.YtalfpbalekbinaaGreat

/-
  The found blocks as a map; its keys, sorted.
-/
namespace Go.Proofs.YtalfpbalekbinaaGreat
open Go.RowKit Go.Sort

theorem atKey_held {D : DataW Value} {kl : Lit} {u : Value} (h : D.atKey kl .nil = .held u) (z : DataW Value) : D.atKey kl z = .held u := by
  unfold DataW.atKey at h ⊢
  cases D <;> simp at h ⊢
  split at h
  · rename_i p hp
    exact h
  · cases h

/-- Block mb is the map of the found blocks, each under its least edge. -/
structure Mp (w : World) (mb : Nat) (F : List (List Nat)) (D : DataW Value) : Prop where
  map : w.ownsMap Tryz.prog 3 rawE mb F.length D
  keys : ∀ kl, Maps.has D kl = true ↔ ∃ L ∈ F, kl = .int .i64 (Bl.mn L : Int)
  rows : ∀ L ∈ F, ∃ g, D.atKey (.int .i64 (Bl.mn L : Int)) .nil = .held (.slice (some ⟨g, 0, none⟩) L.length L.length) ∧ IntsBlk w g (L.map Nat.cast)

section
variable {w w' : World} {mb : Nat} {F : List (List Nat)} {D : DataW Value}
theorem Mp.later (h : Mp w mb F D) (hb : Below w.heap.size w w') : Mp w' mb F D := by
  refine ⟨?_, h.keys, fun L hL => ?_⟩
  · have hl := h.map.lt
    obtain ⟨es, ck, e, r⟩ := h.map
    exact ⟨es, ck, (hb.block _ hl).trans e, r⟩
  · obtain ⟨g, e, hi⟩ := h.rows L hL
    exact ⟨g, e, hi.later hb⟩
/-- What lies under a block's least edge, now and later. -/
theorem Mp.looks (h : Mp w mb F D) {L : List Nat} (hL : L ∈ F) (hm : Bl.mn L < 4194304) : ∃ g, g < w.heap.size ∧ ∀ W, Below w.heap.size w W → (Instr.lookup 54 (.map (some mb)) (.int .i64 (Bl.mn L : Int)) false).run Tryz.prog W = .ok (.slice (some ⟨g, 0, none⟩) L.length L.length) W ∧ IntsBlk W g (L.map Nat.cast) := by
  obtain ⟨g, e, hi⟩ := h.rows L hL
  refine ⟨g, hi.lt, fun W hW => ⟨?_, hi.later hW⟩⟩
  obtain ⟨v, ps, hrun, hR⟩ := (h.later hW).map.lookup keyedInt Tryz.underlying54 (look_zero W) (zd := .held (.slice none 0 0)) (zp := []) rfl (int_key (k := (Bl.mn L : Int)) (by omega) (by omega))
  rw [atKey_held e] at hR
  have : v = .slice (some ⟨g, 0, none⟩) L.length L.length := by
    have h1 : (DataW.held v : DataW Value) = .held (.slice (some ⟨g, 0, none⟩) L.length L.length) := congrArg Prod.fst (Option.some.inj hR)
    exact DataW.held.inj h1
  rw [this] at hrun
  exact hrun
end

/-- The keys, rising. -/
def Bl.KeysOf (F : List (List Nat)) (K : List Nat) : Prop := K.Pairwise (fun a b => a < b) ∧ ∀ k, k ∈ K ↔ ∃ L ∈ F, k = Bl.mn L

theorem Bl.sorted_keys {F : List (List Nat)} {K : List Nat} (hn : K.Nodup) (hm : ∀ k, k ∈ K ↔ ∃ L ∈ F, k = Bl.mn L) : ∃ K', Bl.KeysOf F K' ∧ ((K.map (Nat.cast : Nat → Int)).mergeSort fun x y => decide (x ≤ y)) = K'.map Nat.cast ∧ K'.length = K.length := by
  refine ⟨K.mergeSort fun x y => decide (x ≤ y), ⟨?_, fun k => ?_⟩, ?_, List.length_mergeSort K⟩
  · have hp : (K.mergeSort fun x y => decide (x ≤ y)).Pairwise (fun a b => a ≤ b) := by
      have := List.pairwise_mergeSort (le := fun x y : Nat => decide (x ≤ y)) (fun a b c h1 h2 => by simp at h1 h2 ⊢; omega) (fun a b => by simp; omega) K
      exact this.imp (fun h => by simpa using h)
    have hn' : (K.mergeSort fun x y => decide (x ≤ y)).Nodup := (List.mergeSort_perm K _).nodup_iff.2 hn
    exact (hp.and hn').imp (fun h => Nat.lt_of_le_of_ne h.1 h.2)
  · rw [(List.mergeSort_perm K _).mem_iff]
    exact hm k
  · have := List.map_mergeSort (r := fun x y : Nat => decide (x ≤ y)) (s := fun x y : Int => decide (x ≤ y)) (f := (Nat.cast : Nat → Int)) (l := K) (fun a _ b _ => by simp)
    exact this.symm

def KeysPost (F : List (List Nat)) (w : World) (e : Ending) (w' : World) : Prop := ∃ v K, e = .returned v ∧ Bl.KeysOf F K ∧ OwnZ w' w.heap.size v (K.map Nat.cast) ∧ Below w.heap.size w w'

theorem size_le9 {w : World} {mb n : Nat} {D : DataW Value} (h : w.ownsMap Tryz.prog 3 rawE mb n D) : Maps.size D ≤ n := h.size_le

set_option maxRecDepth 100000 in
set_option maxHeartbeats 16000000 in
theorem keys_any9 (mb : Nat) (F : List (List Nat)) (D : DataW Value) (w : World) (h : Mp w mb F D) (hF : F.length ≤ 4194304) (hlt : ∀ L ∈ F, Bl.mn L < 4194304) (hnd : (F.map Bl.mn).Nodup) :
    Calls Tryz.prog 32 #[.map (some mb)] w (KeysPost F w) := by
  obtain ⟨i0, hi, hz0, hz1, hz2⟩ := info_parts Tryz.infoNum
  have H := Nu.hid h
  have hsz := h.map.size_le
  have hml := h.map.lt
  obtain ⟨sz, hsze⟩ : ∃ sz, Maps.size D = sz := ⟨_, rfl⟩
  rw [hsze] at hsz
  have HLT := Nu.hid hlt
  have HND := Nu.hid hnd
  clear h hlt hnd
  go_enter Tryz.func32, Tryz.ntmps32
  go_wp2_with (first | (at_len; refine wpList_len_own _ rfl _ _ rfl _ _ Tryz.underlying54 rawE mb F.length D rfl H.out.map ?_; rw [hsze]) | (at_make; refine wpList_make_own _ rfl _ _ 26 rfl w.heap.size 3 i0 (.int .i64 0) 1 Tryz.underlying26 hi hz0 hz1 _ _ _ sz rfl rfl rfl (by rw [hz2]; omega) (by unfold maxLen; omega) (Nat.le_refl _) ?_; refine Hid.out ?_))
  refine Nu.hid ?_
  intro w1 hrow hg1
  have hb1 : Below w.heap.size w w1 := (Below.refl _ _).grown hg1 (Nat.le_refl _) (fun j hj => by cases hj)
  have hm1 := (H.out.later hb1).map
  have hs1 : w.heap.size < w1.heap.size := (World.ownsRow.lt hrow _ rfl).2
  have HR1 : Hid (OwnZ w1 w.heap.size (.slice (some ⟨w.heap.size, 0, none⟩) 0 sz) (([] : List Nat).map Nat.cast)) := hrow
  have HB1 := Nu.hid hb1
  clear hrow hg1 hb1
  go_wp2_with (at_range; refine wpList_range_own _ rfl _ 54 rfl 3 26 keyedInt Tryz.underlying54 rawE mb F.length D rfl hm1 ?_; intro w2 hrg2 hg2 hs2)
  go_frame
  have HB2 : Hid (Below w.heap.size w w2) := HB1.out.grown hg2 (Nat.le_of_lt hs1) (fun j hj => by cases hj)
  have HR2 : Hid (OwnZ w2 w.heap.size (.slice (some ⟨w.heap.size, 0, none⟩) 0 sz) (([] : List Nat).map Nat.cast)) := HR1.out.same fun g hg hl => hg2.block g hl (by simp)
  have HRG := Nu.hid hrg2
  clear hrg2 hg2 hm1 HB1 HR1
  go_loopw [3] (fun v wr => ∃ (left : Lit → Bool) (cnt : Nat) (K : List Nat), wr.ranges Tryz.prog 3 rawE mb w1.heap.size F.length D left cnt ∧ OwnZ wr w.heap.size v (K.map Nat.cast) ∧ K.Nodup ∧ (∀ k : Nat, k ∈ K ↔ Maps.has D (.int .i64 (k : Int)) = true ∧ left (.int .i64 (k : Int)) = false) ∧ (∀ kl, left kl = true → Maps.has D kl = true) ∧ Below w.heap.size w wr ∧ v.ownBlock ≠ some w1.heap.size ∧ w1.heap.size < wr.heap.size) (fun _ wr => wr.rangeLeft mb w1.heap.size)
  case atStart =>
    refine ⟨_, _, [], HRG.out, HR2.out, List.nodup_nil, fun k => ⟨fun h => (by cases h), fun h => ?_⟩, fun kl h => h, HB2.out, ?_, by omega⟩
    · rw [h.1] at h
      cases h.2
    · intro e
      have e2 : w.heap.size = w1.heap.size := Option.some.inj e
      omega
  case round =>
    clear HRG HR2 HB2
    obtain ⟨left, cnt, K, hrg, hown, hKn, hKm, hlh, hb, hvr, hsr⟩ := hrel
    obtain ⟨vo, vc, hv3, -, -⟩ := hown.form
    rw [List.length_map] at hv3
    subst hv3
    have hKl : K.length ≤ F.length := by
      have := Bl.nodup_sub (l1 := K) (l2 := F.map Bl.mn) hKn (fun k hk => by
        obtain ⟨L, hL, e⟩ := (H.out.keys _).1 ((hKm k).1 hk).1
        injection e with e1 e2
        have : k = Bl.mn L := by omega
        exact List.mem_map.2 ⟨L, hL, this.symm⟩)
      simpa using this
    have HOWN := Nu.hid hown
    have HB := Nu.hid hb
    have HRG := Nu.hid hrg
    have HKM := Nu.hid hKm
    have HKN := Nu.hid hKn
    have HLH := Nu.hid hlh
    have HVR := Nu.hid hvr
    clear hown hb hKm hKn hlh hvr
    go_wp2_with (at_next; refine wpList_next_ranges _ rfl _ rfl 3 keyedInt rawE (Value.int .i64) (fun v : Value => v) (fun key kl hk => by obtain ⟨x, rfl, _⟩ := Maps.keyOf_int_inv Tryz.underlying3 hk; exact ⟨x, rfl⟩) (fun v y _ => ⟨v, rfl⟩) mb w1.heap.size F.length D left cnt rfl HRG.out ?_ ?_)
    · intro _ hl0
      have HS := Nu.hid (isort_any w.heap.size (.slice vo K.length vc) (K.map Nat.cast) wr HOWN.out (by rw [List.length_map]; omega))
      have HEND : Hid (∀ w', OwnZ w' w.heap.size (.slice vo K.length vc) ((K.map (Nat.cast : Nat → Int)).mergeSort fun x y => decide (x ≤ y)) → wr.grownBy w' (.slice vo K.length vc : Value).ownBlock → KeysPost F w (.returned (.slice vo K.length vc)) w') := fun w' ho hg => by
        obtain ⟨K', hK', e, _⟩ := Bl.sorted_keys HKN.out (F := F) (fun k => by
          rw [HKM.out k, H.out.keys]
          constructor
          · rintro ⟨⟨L, hL, e⟩, _⟩
            injection e with e1 e2
            exact ⟨L, hL, by omega⟩
          · rintro ⟨L, hL, rfl⟩
            exact ⟨⟨L, hL, rfl⟩, hl0 _⟩)
        rw [e] at ho
        exact ⟨_, K', rfl, hK', ho, HB.out.grown hg HB.out.size (fun k hk => (World.ownsRow.lt HOWN.out k hk).1)⟩
      clear hrg
      go_wp2_with (go_at_call 55; refine HS.out.mono ?_; rintro e w5 ⟨rfl, ho, hg⟩; have HE := Nu.hid (HEND.out w5 ho hg); clear ho hg)
      go_ret
      exact HE.out
    · intro x c kl y1 y2 w4 cnt4 hkx hlk hRc hat hrg4 hcnt hg4 hs4 hen
      obtain ⟨x', hx', hkl, -⟩ := Maps.keyOf_int_inv Tryz.underlying3 hkx
      cases hx'
      subst hkl
      obtain ⟨L, hL, hLe⟩ := (H.out.keys _).1 (HLH.out _ hlk)
      injection hLe with hLe1 hLe2
      have hmb : mb < w.heap.size := hml
      have ho4 : OwnZ w4 w.heap.size (.slice vo K.length vc) (K.map Nat.cast) := HOWN.out.same fun g hg hl => hg4.block g hl (fun e => HVR.out (by rw [hg]; exact e))
      have HO4 := Nu.hid ho4
      have hb4 : Below w.heap.size w w4 := HB.out.grown hg4 HB.out.size (fun k hk => by have := Option.some.inj hk; omega)
      have HB4 := Nu.hid hb4
      have HRG4 := Nu.hid hrg4
      have hs4' : w.heap.size ≤ w4.heap.size := hb4.size
      have HM : Hid (cnt4 < wr.rangeLeft mb w1.heap.size) := by
        show _ < _
        rw [hrg.left_eq]
        exact hcnt
      have hnk : ¬ (Lit.int .i64 (Bl.mn L : Int)).sameKey (.int .i64 (Bl.mn L : Int)) = false := by simp [Lit.sameKey]
      have HK' : Hid ((K ++ [Bl.mn L]).Nodup ∧ (∀ k : Nat, k ∈ K ++ [Bl.mn L] ↔ Maps.has D (.int .i64 (k : Int)) = true ∧ (left (.int .i64 (k : Int)) && !(Lit.int .i64 (k : Int)).sameKey (.int .i64 x)) = false) ∧ ∀ kl, (left kl && !kl.sameKey (.int .i64 x)) = true → Maps.has D kl = true) := by
        have hsame : ∀ k : Nat, (Lit.int .i64 (k : Int)).sameKey (.int .i64 x) = decide (k = Bl.mn L) := fun k => by
          simp only [Lit.sameKey, true_and, hLe2]
          by_cases e : k = Bl.mn L
          · simp [e]
          · simp [e]
            omega
        refine ⟨?_, fun k => ?_, fun kl hk => HLH.out kl (by rw [Bool.and_eq_true] at hk; exact hk.1)⟩
        · rw [List.nodup_append]
          refine ⟨HKN.out, by simp, fun a ha b hb e => ?_⟩
          have hb' : b = Bl.mn L := by simpa using hb
          have := ((HKM.out a).1 ha).2
          rw [e, hb', ← hLe2, hlk] at this
          cases this
        · rw [List.mem_append, HKM.out k, hsame, List.mem_singleton]
          by_cases e : k = Bl.mn L
          · constructor
            · intro _
              refine ⟨?_, by simp [e]⟩
              rw [e, ← hLe2]
              exact HLH.out _ hlk
            · intro _
              exact .inr e
          · simp [e]
      obtain ⟨xn, hxn⟩ : ∃ xn, xn = Bl.mn L := ⟨_, rfl⟩
      rw [← hxn] at HK' hLe2
      have hxl : xn < 4194304 := by rw [hxn]; exact HLT.out L hL
      have HS4 := Nu.hid hs4
      clear ho4 hb4 hrg4 hg4 hRc hat hrg hcnt hnk hxn hlk hkx hLe1 hs4
      rw [hLe2] at HK' HRG4 hen ⊢
      clear hLe2
      go_wp2_with (at_builtin; refine wpList_push rfl _ _ rfl w4 w.heap.size (.slice vo K.length vc) (K.map Nat.cast) (xn : Int) HO4.out hs4' (by rw [List.length_map]; omega) rfl rfl ?_; refine Hid.out ?_)
      refine Nu.hid ?_
      intro v' w5 ho5 hg5 hat5 hb5
      have hvr5 : v'.ownBlock ≠ some w1.heap.size := by
        rcases hat5 with e | e
        · rw [e]; exact HVR.out
        · rw [e]; intro e2; have := Option.some.inj e2; have := HS4.out; omega
      have hrg5 : w5.ranges Tryz.prog 3 rawE mb w1.heap.size F.length D (fun z => left z && !z.sameKey (.int .i64 (xn : Int))) cnt4 := (HRG4.out.alloc _).kept hg5 (fun e => by have := (World.ownsRow.lt HO4.out mb e.symm).1; omega) (fun e => HVR.out e.symm)
      have HRG5 := Nu.hid hrg5
      have HO5 : Hid (OwnZ w5 w.heap.size v' ((K ++ [xn]).map Nat.cast)) := by
        show OwnZ _ _ _ _
        rw [List.map_append]
        exact ho5
      have HB5 : Hid (Below w.heap.size w w5) := HB4.out.trans hb5
      have hs5 : w1.heap.size < w5.heap.size := by have := hb5.size; have := HS4.out; omega
      have HVR5 := Nu.hid hvr5
      clear hrg5 ho5 hg5 hat5 hb5 hvr5
      go_wp2
      go_roundw
      case rel => exact ⟨_, _, K ++ [xn], HRG5.out, HO5.out, HK'.out.1, HK'.out.2.1, HK'.out.2.2, HB5.out, HVR5.out, hs5⟩
      case measure => rw [HRG5.out.left_eq]; exact HM.out
end Go.Proofs.YtalfpbalekbinaaGreat

/-
  Blocks, pure: labels of what hangs together without a vertex, by the edges as a list; what a pass over the edges does to them.
-/
namespace Go.Proofs.YtalfpbalekbinaaGreat
namespace Bl

/-- The sum of the first values. -/
def tot (f : Nat → Nat) : Nat → Nat
  | 0 => 0
  | k + 1 => tot f k + f k
theorem tot_congr {f g : Nat → Nat} : ∀ k, (∀ i, i < k → f i = g i) → tot f k = tot g k
  | 0, _ => rfl
  | k + 1, h => by unfold tot; rw [tot_congr k (fun i hi => h i (by omega)), h k (by omega)]
theorem tot_less {f g : Nat → Nat} {x : Nat} (hx : g x < f x) (ho : ∀ i, i ≠ x → g i = f i) : ∀ k, x < k → tot g k < tot f k
  | 0, h => by omega
  | k + 1, h => by
    unfold tot
    by_cases e : x = k
    · subst e
      rw [tot_congr (f := g) (g := f) x (fun i hi => ho i (by omega))]
      omega
    · have := tot_less hx ho k (by omega)
      rw [ho k (by omega)]
      omega
/-- A number of a list, none below 0. -/
def val (l : List Int) (i : Nat) : Nat := (l.getD i 0).toNat

/-- Closed under edges that don't end at v. -/
def ShutE (es : List (Int × Int)) (v : Int) (S : Nat → Prop) : Prop := ∀ a b : Nat, ((a : Int), (b : Int)) ∈ es → (a : Int) ≠ v → (b : Int) ≠ v → (S a ↔ S b)
def ConnE (es : List (Int × Int)) (v : Int) (a b : Nat) : Prop := ∀ S, ShutE es v S → (S a ↔ S b)
theorem ConnE.refl {es : List (Int × Int)} {v : Int} (a : Nat) : ConnE es v a a := fun _ _ => Iff.rfl
theorem ConnE.symm {es : List (Int × Int)} {v : Int} {a b : Nat} (h : ConnE es v a b) : ConnE es v b a := fun S hS => (h S hS).symm
theorem ConnE.trans {es : List (Int × Int)} {v : Int} {a b c : Nat} (h : ConnE es v a b) (k : ConnE es v b c) : ConnE es v a c := fun S hS => (h S hS).trans (k S hS)
theorem ConnE.edge {es : List (Int × Int)} {v : Int} {a b : Nat} (h : ((a : Int), (b : Int)) ∈ es) (ha : (a : Int) ≠ v) (hb : (b : Int) ≠ v) : ConnE es v a b := fun _ hS => hS a b h ha hb

/-- Labels: -1 of v; else a vertex with which it hangs together without v. -/
structure LabE (n : Nat) (es : List (Int × Int)) (v : Int) (l : List Int) : Prop where
  len : l.length = n
  me : ∀ u : Nat, u < n → (u : Int) = v → l[u]? = some (-1)
  lab : ∀ u : Nat, u < n → (u : Int) ≠ v → ∃ g : Nat, l[u]? = some (g : Int) ∧ ConnE es v u g

theorem LabE.put {n : Nat} {es : List (Int × Int)} {v : Int} {l : List Int} (L : LabE n es v l) {a b : Nat} {y : Int} (_ : a < n) (hb : b < n) (ha' : (a : Int) ≠ v) (hb' : (b : Int) ≠ v) (hc : ConnE es v a b) (hy : l[b]? = some y) : LabE n es v (l.set a y) := by
  refine ⟨by rw [List.length_set]; exact L.len, fun u hu e => ?_, fun u hu e => ?_⟩
  · rw [List.getElem?_set_ne (by intro h; subst h; exact ha' e)]
    exact L.me u hu e
  · by_cases h : a = u
    · subst h
      obtain ⟨g, h1, h2⟩ := L.lab b hb hb'
      rw [hy] at h1
      cases h1
      exact ⟨g, by rw [List.getElem?_set_self (by rw [L.len]; exact hu)], hc.trans h2⟩
    · rw [List.getElem?_set_ne h]
      exact L.lab u hu e

/-- No edge changes anything any more (of those ahead of i). -/
def Quiet (es : List (Int × Int)) (v : Int) (l : List Int) (i : Nat) : Prop := ∀ (k : Nat) (p : Int × Int), k < i → es[k]? = some p → p.1 ≠ v → p.2 ≠ v → l[p.1.toNat]? = l[p.2.toNat]?

/-- Labels at rest tell who hangs together. -/
theorem LabE.done {n : Nat} {es : List (Int × Int)} {v : Int} {l : List Int} (L : LabE n es v l) (Q : Quiet es v l es.length) {a b : Nat} (ha : a < n) (hb : b < n) (ha' : (a : Int) ≠ v) (hb' : (b : Int) ≠ v) : l[a]? = l[b]? ↔ ConnE es v a b := by
  constructor
  · intro h
    obtain ⟨g1, e1, c1⟩ := L.lab a ha ha'
    obtain ⟨g2, e2, c2⟩ := L.lab b hb hb'
    rw [e1, e2] at h
    have : g1 = g2 := by
      have := Option.some.inj h
      omega
    subst this
    exact c1.trans c2.symm
  · intro hc
    refine ((hc (fun u => l[u]? = l[a]?) (fun x y hxy hx hy => ?_)).1 rfl).symm
    obtain ⟨k, hk⟩ := List.mem_iff_getElem?.1 hxy
    have hkl : k < es.length := (List.getElem?_eq_some_iff.1 hk).1
    have := Q k _ hkl hk hx hy
    simp only [Int.toNat_natCast] at this
    show l[x]? = l[a]? ↔ l[y]? = l[a]?
    rw [this]

/-- A pass has come to edge i: l, from l0. -/
structure PassE (n : Nat) (es : List (Int × Int)) (v : Int) (l0 l : List Int) (i : Nat) (ch : Bool) : Prop where
  lab : LabE n es v l
  less : tot (val l) n ≤ tot (val l0) n
  yes : ch = true → tot (val l) n < tot (val l0) n
  no : ch = false → Quiet es v l i

theorem PassE.start {n : Nat} {es : List (Int × Int)} {v : Int} {l : List Int} (L : LabE n es v l) : PassE n es v l l 0 false := ⟨L, Nat.le_refl _, (fun h => by cases h), fun _ k p hk => by omega⟩

theorem PassE.skip {n : Nat} {es : List (Int × Int)} {v : Int} {l0 l : List Int} {i : Nat} {ch : Bool} (P : PassE n es v l0 l i ch) {q : Int × Int} (hq : es[i]? = some q) (h : q.1 = v ∨ q.2 = v ∨ l[q.1.toNat]? = l[q.2.toNat]?) : PassE n es v l0 l (i + 1) ch :=
  ⟨P.lab, P.less, P.yes, fun hc k p hk hp h1 h2 => by
    by_cases e : k = i
    · subst e
      rw [hq] at hp
      cases hp
      rcases h with h | h | h
      · exact absurd h h1
      · exact absurd h h2
      · exact h
    · exact P.no hc k p (by omega) hp h1 h2⟩

theorem val_at {l : List Int} {i : Nat} {x : Int} (h : l[i]? = some x) : val l i = x.toNat := by
  unfold val
  rw [List.getD_eq_getElem?_getD, h]
  rfl

theorem tot_set {n : Nat} {l : List Int} {a : Nat} {x y : Int} (ha : a < n) (hl : l.length = n) (hx : l[a]? = some x) (h0 : 0 ≤ y) (hlt : y < x) : tot (val (l.set a y)) n < tot (val l) n := by
  refine tot_less (x := a) ?_ (fun i hi => ?_) n ha
  · rw [val_at hx, val_at (x := y) (by rw [List.getElem?_set_self (by omega)])]
    omega
  · unfold val
    rw [List.getD_eq_getElem?_getD, List.getD_eq_getElem?_getD, List.getElem?_set_ne (fun e => hi e.symm)]

/-- One end gets the other's lower label. -/
theorem PassE.put {n : Nat} {es : List (Int × Int)} {v : Int} {l0 l : List Int} {i : Nat} {ch : Bool} (P : PassE n es v l0 l i ch) {a b : Nat} {x y : Int} (ha : a < n) (hb : b < n) (ha' : (a : Int) ≠ v) (hb' : (b : Int) ≠ v) (hc : ConnE es v a b) (hx : l[a]? = some x) (hy : l[b]? = some y) (hlt : y < x) : PassE n es v l0 (l.set a y) (i + 1) true := by
  have h0 : 0 ≤ y := by
    obtain ⟨g, h1, _⟩ := P.lab.lab b hb hb'
    rw [hy] at h1
    cases h1
    omega
  have := tot_set ha P.lab.len hx h0 hlt
  exact ⟨P.lab.put ha hb ha' hb' hc hy, by have := P.less; omega, fun _ => by have := P.less; omega, fun h => by cases h⟩

/-- The list as it is begun: the first k have themselves, the others 0. -/
def beg (n k : Nat) : List Int := (List.range n).map fun i => if i < k then (i : Int) else 0
theorem beg_length (n k : Nat) : (beg n k).length = n := by simp [beg]
theorem beg_at {n k i : Nat} (h : i < n) : (beg n k)[i]? = some (if i < k then (i : Int) else 0) := by
  unfold beg
  rw [List.getElem?_map, List.getElem?_range h]
  rfl
theorem beg_zero (n : Nat) : beg n 0 = List.replicate n 0 := by
  refine List.ext_getElem? fun i => ?_
  by_cases h : i < n
  · rw [beg_at h, List.getElem?_replicate, if_pos h, if_neg (by omega)]
  · rw [List.getElem?_eq_none (by rw [beg_length]; omega), List.getElem?_eq_none (by simp; omega)]
theorem beg_set {n k : Nat} (h : k < n) : (beg n k).set k (k : Int) = beg n (k + 1) := by
  refine List.ext_getElem? fun i => ?_
  by_cases hi : i < n
  · by_cases e : k = i
    · subst e
      rw [List.getElem?_set_self (by rw [beg_length]; exact h), beg_at hi, if_pos (by omega)]
    · rw [List.getElem?_set_ne e, beg_at hi, beg_at hi]
      by_cases h1 : i < k
      · rw [if_pos h1, if_pos (by omega)]
      · rw [if_neg h1, if_neg (by omega)]
  · rw [List.getElem?_eq_none (by rw [List.length_set, beg_length]; omega), List.getElem?_eq_none (by rw [beg_length]; omega)]
/-- Without v. -/
def begV (n : Nat) (v : Int) : List Int := if 0 ≤ v then (beg n n).set v.toNat (-1) else beg n n
theorem begV_lab {n : Nat} {es : List (Int × Int)} {v : Int} : LabE n es v (begV n v) := by
  refine ⟨?_, fun u hu e => ?_, fun u hu e => ⟨u, ?_, ConnE.refl u⟩⟩
  · unfold begV
    split
    · rw [List.length_set, beg_length]
    · exact beg_length n n
  · unfold begV
    subst e
    rw [if_pos (by omega), Int.toNat_natCast, List.getElem?_set_self (by rw [beg_length]; exact hu)]
  · unfold begV
    split
    · rw [List.getElem?_set_ne (by intro h; omega), beg_at hu, if_pos hu]
    · rw [beg_at hu, if_pos hu]
end Bl
end Go.Proofs.YtalfpbalekbinaaGreat
