/-
  The law's ends: by vertex, in how many blocks it is.
-/
import Derived.Test.YtalfpbalekbinaaBlTr
import Derived.Test.YtalfpbalekbinaaMg41
namespace Go.Proofs.Ytalfpbalekbinaa
open Go.RowKit Go.Sort

namespace Bl
section
variable {es : List (Int × Int)} {f : Nat → Nat} {v : Int}
open Classical in
/-- The numbers met at v among the first j edges, each once. -/
noncomputable def seenTo (es : List (Int × Int)) (f : Nat → Nat) (v : Int) : Nat → List Int
  | 0 => []
  | j + 1 => if ((es.getD j (0, 0)).1 = v ∨ (es.getD j (0, 0)).2 = v) ∧ (f j : Int) ∉ seenTo es f v j then seenTo es f v j ++ [(f j : Int)] else seenTo es f v j
theorem seenTo_yes {j : Nat} {p : Int × Int} (hp : es[j]? = some p) (h1 : p.1 = v ∨ p.2 = v) (h2 : (f j : Int) ∉ seenTo es f v j) : seenTo es f v (j + 1) = seenTo es f v j ++ [(f j : Int)] := by
  rw [seenTo, if_pos ⟨by rw [List.getD_eq_getElem?_getD, hp]; exact h1, h2⟩]
theorem seenTo_no {j : Nat} {p : Int × Int} (hp : es[j]? = some p) (h : ¬ (p.1 = v ∨ p.2 = v) ∨ (f j : Int) ∈ seenTo es f v j) : seenTo es f v (j + 1) = seenTo es f v j := by
  rw [seenTo, if_neg]
  rw [List.getD_eq_getElem?_getD, hp]
  rintro ⟨h1, h2⟩
  rcases h with h | h
  · exact h h1
  · exact h2 h
theorem seenTo_length : ∀ j, (seenTo es f v j).length ≤ j
  | 0 => Nat.le_refl _
  | j + 1 => by
    have := seenTo_length j
    rw [seenTo]
    split
    · rw [List.length_append]
      simp
      omega
    · omega
theorem seenTo_nodup : ∀ j, (seenTo es f v j).Nodup
  | 0 => List.nodup_nil
  | j + 1 => by
    have := seenTo_nodup j
    rw [seenTo]
    split
    · next h =>
      rw [List.nodup_append]
      refine ⟨this, by simp, fun a ha b hb e => ?_⟩
      have : b = (f j : Int) := by simpa using hb
      rw [e, this] at ha
      exact h.2 ha
    · exact this
theorem mem_seenTo {x : Int} : ∀ {j : Nat}, j ≤ es.length → (x ∈ seenTo es f v j ↔ ∃ (i : Nat) (p : Int × Int), i < j ∧ es[i]? = some p ∧ (p.1 = v ∨ p.2 = v) ∧ x = (f i : Int))
  | 0, _ => ⟨fun h => (by cases h), fun ⟨i, _, h, _⟩ => by omega⟩
  | j + 1, hj => by
    have ih := mem_seenTo (x := x) (j := j) (by omega)
    obtain ⟨p, hp⟩ : ∃ p, es[j]? = some p := ⟨_, List.getElem?_eq_getElem (by omega)⟩
    have key : (∃ (i : Nat) (q : Int × Int), i < j + 1 ∧ es[i]? = some q ∧ (q.1 = v ∨ q.2 = v) ∧ x = (f i : Int)) ↔ (∃ (i : Nat) (q : Int × Int), i < j ∧ es[i]? = some q ∧ (q.1 = v ∨ q.2 = v) ∧ x = (f i : Int)) ∨ ((p.1 = v ∨ p.2 = v) ∧ x = (f j : Int)) := by
      constructor
      · rintro ⟨i, q, h1, h2, h3, h4⟩
        by_cases e : i = j
        · subst e
          rw [hp] at h2
          cases h2
          exact .inr ⟨h3, h4⟩
        · exact .inl ⟨i, q, by omega, h2, h3, h4⟩
      · rintro (⟨i, q, h1, h2⟩ | ⟨h3, h4⟩)
        · exact ⟨i, q, by omega, h2⟩
        · exact ⟨j, p, by omega, hp, h3, h4⟩
    rw [key, ← ih]
    by_cases h1 : p.1 = v ∨ p.2 = v
    · by_cases h2 : (f j : Int) ∈ seenTo es f v j
      · rw [seenTo_no hp (.inr h2)]
        exact ⟨.inl, fun h => h.elim id fun h => h.2 ▸ h2⟩
      · rw [seenTo_yes hp h1 h2, List.mem_append]
        simp [h1]
    · rw [seenTo_no hp (.inl h1)]
      simp [h1]
theorem seenTo_all {c : Nat} (hf : ∀ e, e < es.length → f e < c) : (seenTo es f v es.length).length = inB es f v c := by
  classical
  unfold inB
  rw [← filter_len]
  have h1 : ∀ k : Nat, (k : Int) ∈ seenTo es f v es.length ↔ k ∈ (List.range c).filter fun k => hitB es f v k es.length := fun k => by
    rw [mem_seenTo (Nat.le_refl _), List.mem_filter, List.mem_range]
    unfold hitB hitTo
    rw [decide_eq_true_iff]
    constructor
    · rintro ⟨i, p, a, b, d, e⟩
      have : k = f i := by omega
      exact ⟨by rw [this]; exact hf i a, i, p, a, b, this.symm, d⟩
    · rintro ⟨_, i, p, a, b, d, e⟩
      exact ⟨i, p, a, b, e, by rw [d]⟩
  have h2 : seenTo es f v es.length = ((seenTo es f v es.length).map Int.toNat).map Nat.cast := by
    rw [List.map_map]
    conv => lhs; rw [← List.map_id (seenTo es f v es.length)]
    refine List.map_congr_left fun x hx => ?_
    obtain ⟨i, _, _, _, _, e⟩ := (mem_seenTo (Nat.le_refl _)).1 hx
    simp [e]
  have h3 : ((seenTo es f v es.length).map Int.toNat).Nodup := by
    unfold List.Nodup
    rw [List.pairwise_map]
    refine List.Pairwise.imp_of_mem (fun {a b} ha hb hne e => ?_) (seenTo_nodup (es := es) (f := f) (v := v) es.length)
    obtain ⟨i, _, _, _, _, e1⟩ := (mem_seenTo (Nat.le_refl _)).1 ha
    obtain ⟨j, _, _, _, _, e2⟩ := (mem_seenTo (Nat.le_refl _)).1 hb
    exact hne (by omega)
  have h4 : ∀ k, k ∈ (seenTo es f v es.length).map Int.toNat ↔ k ∈ (List.range c).filter fun k => hitB es f v k es.length := fun k => by
    rw [← h1, List.mem_map]
    constructor
    · rintro ⟨x, hx, rfl⟩
      obtain ⟨i, _, _, _, _, e1⟩ := (mem_seenTo (Nat.le_refl _)).1 hx
      rw [e1, Int.toNat_natCast, ← e1]
      exact hx
    · intro hk
      exact ⟨_, hk, by simp⟩
  refine Nat.le_antisymm ?_ ?_
  · rw [← List.length_map (f := Int.toNat)]
    exact nodup_sub h3 fun x hx => (h4 x).1 hx
  · have e : (seenTo es f v es.length).length = ((seenTo es f v es.length).map Int.toNat).length := (List.length_map _).symm
    rw [e]
    exact nodup_sub (List.Pairwise.filter _ List.nodup_range) fun x hx => (h4 x).2 hx
end
end Bl

set_option maxRecDepth 100000 in
set_option maxHeartbeats 16000000 in
theorem ends_any9 (n : Nat) (ao : Option Addr) (cap : Nat) (es : List (Int × Int)) (no : Option Addr) (nc : Nat) (f : Nat → Nat) (w : World) (he : EdgesAt w ao es) (hfew : es.length ≤ 4194304) (hn : n ≤ 1048576) (hno : IntsAt w no (Bl.nums es.length f)) :
    Calls Try.prog 21 #[.agg #[.int .i64 (n : Int), .slice ao es.length cap], .slice no es.length nc] w fun e w' => ∃ g, e = .returned (.slice (some ⟨g, 0, none⟩) n n) ∧ IntsBlk w' g (Bl.nums n fun v => (Bl.seenTo es f (v : Int) es.length).length) ∧ Below w.heap.size w w' := by
  obtain ⟨i0, hi, hz0, hz1, hz2⟩ := info_parts Try.infoNum
  have hG0 : Gr9 w n ao cap es _ := .start he
  have HG0 := Nu.hid hG0
  have HNO := Nu.hid hno
  obtain ⟨x0, x1⟩ := hG0.cells
  clear he hno hG0
  go_enter Try.func21, Try.ntmps21
  go_wp2_with (at_make; refine wpList_make_full _ rfl _ _ 26 rfl (w.heap.size + 1) 3 i0 (.int .i64 0) 1 Try.underlying26 hi hz0 hz1 _ _ _ _ n rfl rfl rfl rfl (by rw [hz2]; omega) (by unfold maxLen; omega) (by simp) ?_; refine Hid.out ?_)
  refine Nu.hid ?_
  intro w1 hrow hg1
  rw [made_zeros] at hrow
  have hik := ints_of_row hrow
  have hsz : (w.alloc (.cells #[.int .i64 (n : Int), .slice ao es.length cap] 24)).heap.size = w.heap.size + 1 := by simp
  have hb1 : Below (w.heap.size + 1) (w.alloc (.cells #[.int .i64 (n : Int), .slice ao es.length cap] 24)) w1 := (Below.refl _ _).grown hg1 (by simp) (fun j hj => by cases hj)
  have HG1 : Hid (Gr9 w n ao cap es w1) := HG0.out.later (by rw [hsz]; exact hb1)
  have HI1 : Hid (IntsBlk w1 (w.heap.size + 1) (Bl.nums n fun _ => 0)) := by
    rw [Bl.nums_zero]
    exact hik
  clear hrow hg1 hik hb1 x0 x1 HG0 hsz
  go_wp2
  go_loopw [6] (fun cv wr => ∃ v : Nat, v ≤ n ∧ cv = .int .i64 (v : Int) ∧ Gr9 w n ao cap es wr ∧ IntsBlk wr (w.heap.size + 1) (Bl.nums n fun u => if u < v then (Bl.seenTo es f (u : Int) es.length).length else 0)) (fun cv _ => n - (intOf cv).toNat)
  case atStart => exact ⟨0, Nat.zero_le _, rfl, HG1.out, by simpa using HI1.out⟩
  case round =>
    clear HG1 HI1
    obtain ⟨v, hvn, rfl, hG, hI⟩ := hrel
    have HG := Nu.hid hG
    have HI := Nu.hid hI
    obtain ⟨x0, x1⟩ := hG.cells
    by_cases hlt : v < n
    · have hlti : (v : Int) < (n : Int) := by omega
      have hv0 : (0 : Int) ≤ (v : Int) := by omega
      clear hG hI
      go_wp2
      obtain ⟨w2, hw2⟩ : ∃ w2, w2 = wr := ⟨_, rfl⟩
      subst hw2
      clear x0 x1
      go_loopw [7, 8] (fun sv cv wr => ∃ j : Nat, j ≤ es.length ∧ cv = .int .i64 (j : Int) ∧ OwnZ wr w2.heap.size sv (Bl.seenTo es f (v : Int) j) ∧ Below w2.heap.size w2 wr) (fun _ cv _ => es.length - (intOf cv).toNat)
      case atStart => exact ⟨0, Nat.zero_le _, rfl, .nil _ _, Below.refl _ _⟩
      case round =>
        obtain ⟨j, hj, rfl, hO, hb⟩ := hrel
        have HO := Nu.hid hO
        have HB := Nu.hid hb
        have hbz := hb.size
        have hG := HG.out.later hb
        obtain ⟨x0, x1⟩ := hG.cells
        have hsl := Bl.seenTo_length (es := es) (f := f) (v := (v : Int)) j
        obtain ⟨so, sc, hsv, hsat, -⟩ := hO.form
        subst hsv
        by_cases hjn : j < es.length
        · have hljn : (j : Int) < (es.length : Int) := by omega
          have hj0 : (0 : Int) ≤ (j : Int) := by omega
          obtain ⟨⟨p1, p2⟩, hq⟩ : ∃ q, es[j]? = some q := ⟨_, List.getElem?_eq_getElem hjn⟩
          obtain ⟨b, o, rfl, -, -⟩ := hG.edges j _ hq
          obtain ⟨c0, c1⟩ := hG.edges.two hq
          obtain ⟨nb, no', rfl, d0⟩ := (HNO.out.later hG.low) j _ (Bl.nums_at (f := f) hjn)
          have HSA := Nu.hid hsat
          clear hO hb hG hsat
          by_cases hh : p1 = (v : Int) ∨ p2 = (v : Int)
          · obtain ⟨S, hS⟩ : ∃ S, Bl.seenTo es f (v : Int) j = S := ⟨_, rfl⟩
            have HYY : Hid ((f j : Int) ∉ S → Bl.seenTo es f (v : Int) (j + 1) = S ++ [(f j : Int)]) := fun h => by
              rw [← hS] at h ⊢
              exact Bl.seenTo_yes hq hh h
            have HYN : Hid ((f j : Int) ∈ S → Bl.seenTo es f (v : Int) (j + 1) = S) := fun h => by
              rw [← hS] at h ⊢
              exact Bl.seenTo_no hq (.inr h)
            rw [hS] at HO HSA hsl ⊢
            obtain ⟨x, hx⟩ : ∃ x : Int, (f j : Int) = x := ⟨_, rfl⟩
            rw [hx] at d0 HYY HYN
            clear hS hq hx
            by_cases h1 : p1 = (v : Int)
            · have hc1 : (p1 != (v : Int)) = false := by simp [h1]
              clear hh h1
              go_wp2
              clear x0 x1 c0 c1
              go_loopw [9, 10] (fun hv cv W => ∃ k : Nat, k ≤ S.length ∧ cv = .int .i64 (k : Int) ∧ hv = .bool (decide (x ∈ S.take k)) ∧ Below wr.heap.size wr W) (fun _ cv _ => S.length - (intOf cv).toNat)
              case atStart => exact ⟨0, Nat.zero_le _, rfl, by simp, Below.refl _ _⟩
              case round =>
                rename_i W hrel
                obtain ⟨k, hk, rfl, rfl, hW⟩ := hrel
                have HW := Nu.hid hW
                have d1 := (hW.cell (p := ⟨nb, no' + j, none⟩) (block_lt_of_cell d0)).trans d0
                have HSW := Nu.hid (HSA.out.later hW)
                have HOW := Nu.hid (HO.out.later hW)
                have HBW := Nu.hid (HB.out.trans (hW.mono hbz))
                have hbzW := HBW.out.size
                clear hW
                by_cases hkS : k < S.length
                · have hlk : (k : Int) < (S.length : Int) := by omega
                  have hk0 : (0 : Int) ≤ (k : Int) := by omega
                  obtain ⟨y, hy⟩ : ∃ y, S[k]? = some y := ⟨_, List.getElem?_eq_getElem hkS⟩
                  obtain ⟨sb, so', eso, e0⟩ := HSW.out k y hy
                  subst eso
                  have htk : S.take (k + 1) = S.take k ++ [y] := by rw [List.take_add_one, hy]; rfl
                  by_cases hm : x ∈ S.take k
                  · have hd : decide (x ∈ S.take k) = true := decide_eq_true hm
                    have HD1 : Hid (decide (x ∈ S.take (k + 1)) = true) := decide_eq_true (by rw [htk]; exact List.mem_append_left _ hm)
                    rw [hd]
                    clear htk hy hm hd
                    go_wp2_with fail
                    go_quiet (fail)
                    go_wp2
                    go_roundw
                    case rel => exact ⟨k + 1, by omega, by go_num, by rw [HD1.out], below_drewN HW.out _⟩
                    case measure => simp [intOf]; omega
                  · have hd : decide (x ∈ S.take k) = false := decide_eq_false hm
                    rw [hd]
                    by_cases hyx : y = x
                    · have hq : (y == x) = true := by simp [hyx]
                      have HD1 : Hid (decide (x ∈ S.take (k + 1)) = true) := decide_eq_true (by rw [htk, hyx]; simp)
                      clear htk hy hm hd hyx
                      go_wp2_with fail
                      go_quiet (fail)
                      go_wp2
                      go_roundw
                      case rel => exact ⟨k + 1, by omega, by go_num, by rw [HD1.out], below_drewN HW.out _⟩
                      case measure => simp [intOf]; omega
                    · have hq : (y == x) = false := by simp [hyx]
                      have HD1 : Hid (decide (x ∈ S.take (k + 1)) = false) := decide_eq_false (by
                        rw [htk]
                        intro h
                        rcases List.mem_append.1 h with h | h
                        · exact hm h
                        · exact hyx (List.mem_singleton.1 h).symm)
                      clear htk hy hm hd hyx
                      go_wp2_with fail
                      go_quiet (fail)
                      go_wp2
                      go_roundw
                      case rel => exact ⟨k + 1, by omega, by go_num, by rw [HD1.out], below_drewN HW.out _⟩
                      case measure => simp [intOf]; omega
                · have hlk : ¬ (k : Int) < (S.length : Int) := by omega
                  obtain rfl : k = S.length := by omega
                  rw [List.take_length]
                  by_cases hm : x ∈ S
                  · rw [decide_eq_true hm]
                    have HY := Nu.hid (HYN.out hm)
                    clear hm
                    go_wp2
                    go_roundw
                    case rel => exact ⟨j + 1, by omega, by go_num, by rw [HY.out]; exact HOW.out, HBW.out⟩
                    case measure => simp [intOf]; omega
                  · rw [decide_eq_false hm]
                    have HY := Nu.hid (HYY.out hm)
                    clear hm
                    go_wp2_with (at_builtin; refine wpList_push rfl _ _ rfl _ w2.heap.size _ S x HOW.out hbzW (Nat.le_trans hsl (by omega)) rfl rfl ?_; refine Hid.out ?_)
                    refine Nu.hid ?_
                    intro v' w6 ho6 hg6 hat6 hb6
                    have HO6 := Nu.hid ho6
                    have HB6 := Nu.hid (HBW.out.trans hb6)
                    clear ho6 hg6 hat6 hb6
                    go_wp2
                    go_roundw
                    case rel => exact ⟨j + 1, by omega, by go_num, by rw [HY.out]; exact HO6.out, HB6.out⟩
                    case measure => simp [intOf]; omega
            · have hc1 : (p1 != (v : Int)) = true := by simp; omega
              have hc2 : (p2 != (v : Int)) = false := by simp; omega
              clear hh h1
              go_wp2
              clear x0 x1 c0 c1
              go_loopw [9, 10] (fun hv cv W => ∃ k : Nat, k ≤ S.length ∧ cv = .int .i64 (k : Int) ∧ hv = .bool (decide (x ∈ S.take k)) ∧ Below wr.heap.size wr W) (fun _ cv _ => S.length - (intOf cv).toNat)
              case atStart => exact ⟨0, Nat.zero_le _, rfl, by simp, Below.refl _ _⟩
              case round =>
                rename_i W hrel
                obtain ⟨k, hk, rfl, rfl, hW⟩ := hrel
                have HW := Nu.hid hW
                have d1 := (hW.cell (p := ⟨nb, no' + j, none⟩) (block_lt_of_cell d0)).trans d0
                have HSW := Nu.hid (HSA.out.later hW)
                have HOW := Nu.hid (HO.out.later hW)
                have HBW := Nu.hid (HB.out.trans (hW.mono hbz))
                have hbzW := HBW.out.size
                clear hW
                by_cases hkS : k < S.length
                · have hlk : (k : Int) < (S.length : Int) := by omega
                  have hk0 : (0 : Int) ≤ (k : Int) := by omega
                  obtain ⟨y, hy⟩ : ∃ y, S[k]? = some y := ⟨_, List.getElem?_eq_getElem hkS⟩
                  obtain ⟨sb, so', eso, e0⟩ := HSW.out k y hy
                  subst eso
                  have htk : S.take (k + 1) = S.take k ++ [y] := by rw [List.take_add_one, hy]; rfl
                  by_cases hm : x ∈ S.take k
                  · have hd : decide (x ∈ S.take k) = true := decide_eq_true hm
                    have HD1 : Hid (decide (x ∈ S.take (k + 1)) = true) := decide_eq_true (by rw [htk]; exact List.mem_append_left _ hm)
                    rw [hd]
                    clear htk hy hm hd
                    go_wp2_with fail
                    go_quiet (fail)
                    go_wp2
                    go_roundw
                    case rel => exact ⟨k + 1, by omega, by go_num, by rw [HD1.out], below_drewN HW.out _⟩
                    case measure => simp [intOf]; omega
                  · have hd : decide (x ∈ S.take k) = false := decide_eq_false hm
                    rw [hd]
                    by_cases hyx : y = x
                    · have hq : (y == x) = true := by simp [hyx]
                      have HD1 : Hid (decide (x ∈ S.take (k + 1)) = true) := decide_eq_true (by rw [htk, hyx]; simp)
                      clear htk hy hm hd hyx
                      go_wp2_with fail
                      go_quiet (fail)
                      go_wp2
                      go_roundw
                      case rel => exact ⟨k + 1, by omega, by go_num, by rw [HD1.out], below_drewN HW.out _⟩
                      case measure => simp [intOf]; omega
                    · have hq : (y == x) = false := by simp [hyx]
                      have HD1 : Hid (decide (x ∈ S.take (k + 1)) = false) := decide_eq_false (by
                        rw [htk]
                        intro h
                        rcases List.mem_append.1 h with h | h
                        · exact hm h
                        · exact hyx (List.mem_singleton.1 h).symm)
                      clear htk hy hm hd hyx
                      go_wp2_with fail
                      go_quiet (fail)
                      go_wp2
                      go_roundw
                      case rel => exact ⟨k + 1, by omega, by go_num, by rw [HD1.out], below_drewN HW.out _⟩
                      case measure => simp [intOf]; omega
                · have hlk : ¬ (k : Int) < (S.length : Int) := by omega
                  obtain rfl : k = S.length := by omega
                  rw [List.take_length]
                  by_cases hm : x ∈ S
                  · rw [decide_eq_true hm]
                    have HY := Nu.hid (HYN.out hm)
                    clear hm
                    go_wp2
                    go_roundw
                    case rel => exact ⟨j + 1, by omega, by go_num, by rw [HY.out]; exact HOW.out, HBW.out⟩
                    case measure => simp [intOf]; omega
                  · rw [decide_eq_false hm]
                    have HY := Nu.hid (HYY.out hm)
                    clear hm
                    go_wp2_with (at_builtin; refine wpList_push rfl _ _ rfl _ w2.heap.size _ S x HOW.out hbzW (Nat.le_trans hsl (by omega)) rfl rfl ?_; refine Hid.out ?_)
                    refine Nu.hid ?_
                    intro v' w6 ho6 hg6 hat6 hb6
                    have HO6 := Nu.hid ho6
                    have HB6 := Nu.hid (HBW.out.trans hb6)
                    clear ho6 hg6 hat6 hb6
                    go_wp2
                    go_roundw
                    case rel => exact ⟨j + 1, by omega, by go_num, by rw [HY.out]; exact HO6.out, HB6.out⟩
                    case measure => simp [intOf]; omega
          · have hc1 : (p1 != (v : Int)) = true := by simp; omega
            have hc2 : (p2 != (v : Int)) = true := by simp; omega
            have HY := Nu.hid (Bl.seenTo_no (f := f) hq (.inl hh))
            clear hq hh
            go_wp2
            go_roundw
            case rel => exact ⟨j + 1, by omega, by go_num, by rw [HY.out]; exact HO.out, HB.out⟩
            case measure => simp [intOf]; omega
        · have hljn : ¬ (j : Int) < (es.length : Int) := by omega
          obtain rfl : j = es.length := by omega
          have hIr := HI.out.later hb
          obtain ⟨y, hy⟩ : ∃ y, (Bl.nums n fun u => if u < v then (Bl.seenTo es f (u : Int) es.length).length else 0)[v]? = some y := ⟨_, Bl.nums_at hlt⟩
          have cy := hIr.cell hy
          have cf := hIr.free v
          have hs2 := HI.out.lt
          have HEND : Hid (Gr9 w n ao cap es (wr.setCell ⟨w.heap.size + 1, v, none⟩ (.int .i64 ((Bl.seenTo es f (v : Int) es.length).length : Int))) ∧ IntsBlk (wr.setCell ⟨w.heap.size + 1, v, none⟩ (.int .i64 ((Bl.seenTo es f (v : Int) es.length).length : Int))) (w.heap.size + 1) (Bl.nums n fun u => if u < v + 1 then (Bl.seenTo es f (u : Int) es.length).length else 0)) := by
            constructor
            · exact ⟨hG.at_, hG.low.setCell (p := ⟨w.heap.size + 1, v, none⟩) (by simp) _, (heap_setCell_other wr ⟨w.heap.size + 1, v, none⟩ w.heap.size _ (by simp)).trans hG.box⟩
            · have := hIr.set v ((Bl.seenTo es f (v : Int) es.length).length : Int)
              rw [Bl.nums_set _ hlt] at this
              have e : (Bl.nums n fun u => if u < v + 1 then (Bl.seenTo es f (u : Int) es.length).length else 0) = Bl.nums n (Co.upd (fun u => if u < v then (Bl.seenTo es f (u : Int) es.length).length else 0) v (Bl.seenTo es f (v : Int) es.length).length) := Bl.nums_congr fun u hu => by
                by_cases e : u = v
                · subst e
                  rw [Co.upd_same, if_pos (by omega)]
                · rw [Co.upd_other _ e]
                  by_cases h : u < v
                  · rw [if_pos h, if_pos (by omega)]
                  · rw [if_neg h, if_neg (by omega)]
              rw [e]
              exact this
          clear hO hb hG hsat hIr hy
          obtain ⟨S, hS⟩ : ∃ S, Bl.seenTo es f (v : Int) es.length = S := ⟨_, rfl⟩
          rw [hS] at HEND hsl ⊢
          clear hS HO
          go_wp2
          go_roundw
          case rel => exact ⟨v + 1, by omega, by go_num, HEND.out.1, HEND.out.2⟩
          case measure => simp [intOf]; omega
    · have hlti : ¬ (v : Int) < (n : Int) := by omega
      obtain rfl : v = n := by omega
      have HEND : Hid (IntsBlk wr (w.heap.size + 1) (Bl.nums v fun u => (Bl.seenTo es f (u : Int) es.length).length)) := by
        have e : (Bl.nums v fun u => if u < v then (Bl.seenTo es f (u : Int) es.length).length else 0) = Bl.nums v fun u => (Bl.seenTo es f (u : Int) es.length).length := Bl.nums_congr fun u hu => if_pos hu
        rw [← e]
        exact hI
      clear hG hI
      go_wp2
      go_ret
      exact ⟨w.heap.size + 1, rfl, HEND.out, HG.out.low⟩
end Go.Proofs.Ytalfpbalekbinaa
