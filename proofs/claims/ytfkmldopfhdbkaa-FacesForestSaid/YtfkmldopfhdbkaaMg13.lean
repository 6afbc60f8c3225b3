import Derived.Test.YtfkmldopfhdbkaaMg12
import Derived.Test.YtfkmldopfhdbkaaMg11
/-
  Next: the program.
-/
namespace Go.Proofs.Ytfkmldopfhdbkaa
open Go.RowKit Go.Sort

set_option maxRecDepth 100000 in
set_option maxHeartbeats 8000000 in
theorem rnext_any (n : Int) (ao : Option Addr) (ca : Nat) (es : List (Int × Int)) (xo : Option Addr) (xc : Nat) (ls : List (List Int)) (w : World) (he : EdgesAt w ao es) (hl : es.length ≤ 4611686018427387904) (hx : RwsAt w xo ls) :
    Calls Try.prog 22 #[graphVal n ao es.length ca, .slice xo ls.length xc] w (NextP n es ls w) := by
  obtain ⟨i0, hi, hz0, hz1, hz2⟩ := info_parts Try.infoNum
  have hb0 : Below w.heap.size w (w.alloc (.cells #[.int .i64 n, .slice ao es.length ca] 24)) := (Below.refl _ _).alloc (Nat.le_refl _) _
  have HCK := Nu.hid (rcheck_any n ao ca es xo xc ls _ (he.later hb0) hl (hx.later hb0))
  have HX := Nu.hid hx
  have HB0 := Nu.hid hb0
  unfold graphVal CkPost at HCK
  unfold graphVal
  clear he hx hb0
  have hch : Ro.check n es ls = ((Ro.check n es ls).1, (Ro.check n es ls).2) := rfl
  by_cases hc : (Ro.check n es ls).2 = 0
  · have hrot := Ro.check_iff.1 hc
    have hval := Si.valid_iff.1 hrot.val
    have hlo := hval.lo
    have hhi := hval.hi
    have hfew := hval.few
    have hlen := hrot.len
    have HROT := Nu.hid hrot
    have HC := Nu.hid hc
    rw [hc] at HCK
    obtain ⟨cv, hcv⟩ : ∃ cv, cv = (Ro.check n es ls).1 := ⟨_, rfl⟩
    rw [← hcv] at HCK
    obtain ⟨M, hM⟩ : ∃ M, M = 2 * es.length := ⟨_, rfl⟩
    have hmul : IntKind.i64.wrap (2 * (es.length : Int)) = (M : Int) := by rw [IntKind.wrap_i64]; omega
    have hmul2 : 2 * (es.length : Int) = (M : Int) := by omega
    have hMb : M ≤ 8388608 := by omega
    have HM := Nu.hid hM
    clear hch hc hrot hval hcv hM
    go_enter Try.func22, Try.ntmps22
    go_wp2_with (go_at_call 38; refine HCK.out.mono ?_; rintro e w1 ⟨rfl, hb⟩; refine Hid.out ?_)
    refine Nu.hid ?_
    have hG0 : w1.heap[w.heap.size]? = some (.cells #[.int .i64 n, .slice ao es.length ca] 24 (0, 0)) := (hb.block _ (by simp)).trans (heap_alloc_new w _)
    obtain ⟨g0, g1, -⟩ := pair_cells hG0
    have hsz1 : w.heap.size < w1.heap.size := lt_of_block hG0
    have HB1 := Nu.hid (HB0.out.trans (hb.mono HB0.out.size))
    clear hb hG0
    go_wp2_with (at_make; refine wpList_make_full _ rfl _ _ 36 rfl w1.heap.size 3 i0 (.int .i64 0) 1 Try.underlying36 hi hz0 hz1 _ _ _ _ M rfl rfl rfl rfl (by rw [hz2]; omega) (by unfold maxLen; omega) (Nat.le_refl _) ?_; refine Hid.out ?_)
    refine Nu.hid ?_
    intro w2 hrow hg2
    rw [made_zeros] at hrow
    have HI2 := Nu.hid (ints_of_row hrow)
    have hb2 : Below w1.heap.size w1 w2 := (Below.refl _ _).grown hg2 (Nat.le_refl _) (fun j hj => by cases hj)
    have HB2 := Nu.hid (HB1.out.trans (hb2.mono HB1.out.size))
    clear hrow hg2 hb2 g0 g1
    go_wp2
    go_loopw [29] (fun c wr => ∃ k : Nat, k ≤ ls.length ∧ c = .int .i64 (k : Int) ∧ IntsBlk wr w1.heap.size (Ro.nx ls k (List.replicate M 0)) ∧ Below w.heap.size w wr) (fun c _ => ls.length - (intOf c).toNat)
    case atStart => exact ⟨0, Nat.zero_le _, rfl, HI2.out, HB2.out⟩
    case round =>
      obtain ⟨k, hk, rfl, hik, hb⟩ := hrel
      clear HI2
      have HI := Nu.hid hik
      have HB := Nu.hid hb
      clear hik hb
      by_cases hlt : k < ls.length
      · have hlti : (k : Int) < (ls.length : Int) := by omega
        have hk0 : (0 : Int) ≤ (k : Int) := by omega
        obtain ⟨l, hlk⟩ : ∃ l, ls[k]? = some l := ⟨_, List.getElem?_eq_getElem hlt⟩
        have hgd : ls.getD k [] = l := by rw [List.getD_eq_getElem?_getD, hlk]; rfl
        obtain ⟨b, o, A, C, rfl, hcell, hL, hln, -⟩ := HX.out k l hlk
        have hbl : b < w.heap.size := block_lt_of_cell hcell
        have hcr := (HB.out.cell (p := ⟨b, o + k, none⟩) hbl).trans hcell
        have HL := Nu.hid hL
        have HLK := Nu.hid hlk
        have HCELL := Nu.hid hcell
        have HGD := Nu.hid hgd
        clear hcell hL hlk hgd
        go_wp2
        clear hcr
        go_loopw [35] (fun c wr => ∃ i : Nat, i ≤ l.length ∧ c = .int .i64 (i : Int) ∧ IntsBlk wr w1.heap.size (Ro.row l i (Ro.nx ls k (List.replicate M 0))) ∧ Below w.heap.size w wr) (fun c _ => l.length - (intOf c).toNat)
        case atStart => exact ⟨0, Nat.zero_le _, rfl, HI.out, HB.out⟩
        case round =>
          clear HI HB
          obtain ⟨i, hil, rfl, hii, hb⟩ := hrel
          have HI := Nu.hid hii
          have HB := Nu.hid hb
          have hcr := (HB.out.cell (p := ⟨b, o + k, none⟩) hbl).trans HCELL.out
          clear hii hb
          by_cases hli : i < l.length
          · have hlii : (i : Int) < (l.length : Int) := by omega
            have hi00 : (0 : Int) ≤ (i : Int) := by omega
            obtain ⟨x, hxi⟩ : ∃ x, l[i]? = some x := ⟨_, List.getElem?_eq_getElem hli⟩
            obtain ⟨j, rfl, hj, -⟩ := HROT.out.half HLK.out hxi
            have hjM : j < M := by have := HM.out; omega
            obtain ⟨q, hq⟩ : ∃ q, q = (i + 1) % l.length := ⟨_, rfl⟩
            have hql : q < l.length := by rw [hq]; exact Nat.mod_lt _ (by omega)
            have hqm : ((i : Int) + 1).tmod (l.length : Int) = (q : Int) := by
              rw [Int.tmod_eq_emod_of_nonneg (by omega), hq]
              exact (Int.natCast_emod (i + 1) l.length).symm
            have hqm2 : ((i : Int) + 1) % (l.length : Int) = (q : Int) := by
              rw [hq]
              exact (Int.natCast_emod (i + 1) l.length).symm
            obtain ⟨y, hy⟩ : ∃ y, l[q]? = some y := ⟨_, List.getElem?_eq_getElem hql⟩
            obtain ⟨lb, lo', rfl, lc⟩ := HL.out.elem hxi
            obtain ⟨lb', lo'', hle, lc'⟩ := HL.out.elem hy
            cases hle
            have hlbl : lb < w.heap.size := block_lt_of_cell lc
            have c1 := (HB.out.cell (p := ⟨lb, lo' + i, none⟩) hlbl).trans lc
            have c2 := (HB.out.cell (p := ⟨lb, lo' + q, none⟩) hlbl).trans lc'
            have hrl : (Ro.row l i (Ro.nx ls k (List.replicate M 0))).length = M := by rw [Ro.row_len, Ro.nx_len]; simp
            obtain ⟨z, hz⟩ : ∃ z, (Ro.row l i (Ro.nx ls k (List.replicate M 0)))[j]? = some z := ⟨_, List.getElem?_eq_getElem (by rw [hrl]; exact hjM)⟩
            have c3 := HI.out.cell hz
            have c4 := HI.out.free j
            have HI3 : Hid (IntsBlk (wr.setCell ⟨w1.heap.size, j, none⟩ (.int .i64 y)) w1.heap.size (Ro.row l (i + 1) (Ro.nx ls k (List.replicate M 0)))) := by
              have h1 := HI.out.set j y
              have e : Ro.row l (i + 1) (Ro.nx ls k (List.replicate M 0)) = (Ro.row l i (Ro.nx ls k (List.replicate M 0))).set j y := by
                show (Ro.row l i _).set (l.getD i 0).toNat (l.getD ((i + 1) % l.length) 0) = _
                rw [← hq, List.getD_eq_getElem?_getD, List.getD_eq_getElem?_getD, hxi, hy]
                rfl
              rw [e]
              exact h1
            have hj0 : (0 : Int) ≤ (j : Int) := by omega
            have hjM2 : (j : Int) < (M : Int) := by omega
            have hq0 : (0 : Int) ≤ (q : Int) := by omega
            have hql2 : (q : Int) < (l.length : Int) := by omega
            have hlz : ((l.length : Int) == 0) = false := beq_false_of_ne (by omega)
            have hwq : IntKind.i64.wrap (q : Int) = (q : Int) := by rw [IntKind.wrap_i64]; omega
            have hwi : IntKind.i64.wrap ((i : Int) + 1) = (i : Int) + 1 := by rw [IntKind.wrap_i64]; omega
            clear hq hy hxi lc lc' hz hrl
            go_wp2
            
            go_roundw
            case rel => exact ⟨i + 1, by omega, by go_num, HI3.out, by first | exact HB.out.trans (below_setCell (g := w1.heap.size) _ (by omega)) | exact (HB.out.trans (below_setCell (g := w1.heap.size) _ (by omega))).drew⟩
            case measure => simp [intOf]; omega
          · have hlii : ¬ (i : Int) < (l.length : Int) := by omega
            obtain rfl : i = l.length := by omega
            have HI3 : Hid (IntsBlk wr w1.heap.size (Ro.nx ls (k + 1) (List.replicate M 0))) := by
              show IntsBlk wr w1.heap.size (Ro.row (ls.getD k []) (ls.getD k []).length _)
              rw [HGD.out]
              exact HI.out
            go_wp2
            go_roundw
            case rel => exact ⟨k + 1, by omega, by go_num, HI3.out, HB.out⟩
            case measure => simp [intOf]; omega
      · have hlti : ¬ (k : Int) < (ls.length : Int) := by omega
        obtain rfl : k = ls.length := by omega
        go_wp2
        go_ret2
        refine ⟨HB.out, .inr ⟨HC.out, w1.heap.size, by rw [← HM.out]; rfl, by omega, ?_⟩⟩
        unfold Ro.nextL
        rw [← HM.out]
        exact HI.out
  · obtain ⟨cv, hcv⟩ : ∃ cv, cv = (Ro.check n es ls).1 := ⟨_, rfl⟩
    obtain ⟨cc, hcc⟩ : ∃ cc, cc = (Ro.check n es ls).2 := ⟨_, rfl⟩
    rw [← hcv, ← hcc] at HCK
    rw [← hcc] at hc
    have HCC := Nu.hid hcc
    have j1 : (cc != 0) = true := by simp [hc]
    have HNC := Nu.hid hc
    clear hch hcv hcc hc
    go_enter Try.func22, Try.ntmps22
    go_wp2_with (go_at_call 38; refine HCK.out.mono ?_; rintro e w1 ⟨rfl, hb⟩; refine Hid.out ?_)
    refine Nu.hid ?_
    have HB1 := Nu.hid (HB0.out.trans (hb.mono HB0.out.size))
    clear hb
    go_wp2
    go_ret2
    refine ⟨HB1.out, .inl ⟨by rw [← HCC.out]; exact HNC.out, by rw [← HCC.out]; rfl⟩⟩

end Go.Proofs.Ytfkmldopfhdbkaa

/-
  Faces, the program: the steps, Of.
-/
namespace Go.Proofs.Ytfkmldopfhdbkaa
open Go.RowKit Go.Sort

/-- All faces. -/
def Fa.all (es : List (Int × Int)) (ls : List (List Int)) : List (List Int) := Fa.facesZ (Fa.ph es ls) (2 * es.length)

/-- An error, or lists of one's own. -/
def FacQ (c : Int) (R : List (List Int)) (w : World) (e : Ending) (w' : World) : Prop :=
  Below w.heap.size w w' ∧ ((c ≠ 0 ∧ e = .returned (.tuple #[.slice none 0 0, .int .i64 c])) ∨ (c = 0 ∧ ∃ v vs, e = .returned (.tuple #[v, .int .i64 0]) ∧ RowsZ w' w.heap.size v vs R))

theorem steps_of {n : Int} {es : List (Int × Int)} {ls : List (List Int)} {w : World} {g : Nat} (h0 : (Ro.check n es ls).2 = 0) (hi : IntsBlk w g (Ro.nextL es ls)) : StepsAt w g (2 * es.length) (Fa.ph es ls) := by
  have hr := Ro.check_iff.1 h0
  have hv := Si.valid_iff.1 hr.val
  obtain ⟨m, rfl⟩ : ∃ m : Nat, n = (m : Int) := ⟨n.toNat, by have := hv.lo; omega⟩
  have hfew := hv.few
  refine ⟨hi.lt, fun x hx => ?_, by omega, by omega, Fa.ph_per hr⟩
  rw [Fa.ph_at hx]
  exact hi.cell (Fa.sg_at hr (Cs.twin_lt hx)).1

set_option maxRecDepth 100000 in
set_option maxHeartbeats 4000000 in
theorem stepsOf_any (n : Int) (ao : Option Addr) (ca : Nat) (es : List (Int × Int)) (xo : Option Addr) (xc : Nat) (ls : List (List Int)) (w : World) (he : EdgesAt w ao es) (hl : es.length ≤ 4611686018427387904) (hx : RwsAt w xo ls) :
    Calls Try.prog 31 #[graphVal n ao es.length ca, .slice xo ls.length xc] w (NextP n es ls w) := by
  have hb0 : Below w.heap.size w (w.alloc (.cells #[.int .i64 n, .slice ao es.length ca] 24)) := (Below.refl _ _).alloc (Nat.le_refl _) _
  have HN := Nu.hid (rnext_any n ao ca es xo xc ls _ (he.later hb0) hl (hx.later hb0))
  have HB0 := Nu.hid hb0
  unfold graphVal at HN ⊢
  clear he hx hb0
  go_enter Try.func31, Try.ntmps31
  go_wp2_with (go_at_call 22; refine HN.out.mono ?_; intro e w1 hp; obtain ⟨hb1, ⟨hc, rfl⟩ | ⟨hc, g, rfl, hg, hi⟩⟩ := hp <;> refine Hid.out ?_)
  all_goals refine Nu.hid ?_
  · have HB := Nu.hid (HB0.out.trans (hb1.mono HB0.out.size))
    have HC := Nu.hid hc
    clear hc hb1
    go_wp2
    go_ret2
    exact ⟨HB.out, .inl ⟨HC.out, rfl⟩⟩
  · have HB := Nu.hid (HB0.out.trans (hb1.mono HB0.out.size))
    have HG : Hid (w.heap.size ≤ g) := by have := HB0.out.size; show w.heap.size ≤ g; omega
    have HC := Nu.hid hc
    have HI := Nu.hid hi
    clear hc hb1 hg hi
    go_wp2
    go_ret2
    exact ⟨HB.out, .inr ⟨HC.out, g, rfl, HG.out, HI.out⟩⟩

set_option maxRecDepth 100000 in
set_option maxHeartbeats 4000000 in
theorem fof_any (n : Int) (ao : Option Addr) (ca : Nat) (es : List (Int × Int)) (xo : Option Addr) (xc : Nat) (ls : List (List Int)) (w : World) (he : EdgesAt w ao es) (hl : es.length ≤ 4611686018427387904) (hx : RwsAt w xo ls) :
    Calls Try.prog 10 #[graphVal n ao es.length ca, .slice xo ls.length xc] w (FacQ (Ro.check n es ls).2 (Fa.all es ls) w) := by
  have hb0 : Below w.heap.size w (w.alloc (.cells #[.int .i64 n, .slice ao es.length ca] 24)) := (Below.refl _ _).alloc (Nat.le_refl _) _
  have HN := Nu.hid (stepsOf_any n ao ca es xo xc ls _ (he.later hb0) hl (hx.later hb0))
  have HB0 := Nu.hid hb0
  unfold graphVal at HN ⊢
  obtain ⟨C, hC⟩ : ∃ C, C = (Ro.check n es ls).2 := ⟨_, rfl⟩
  have HC := Nu.hid hC
  rw [← hC]
  clear he hx hb0 hC
  go_enter Try.func10, Try.ntmps10
  go_wp2_with (go_at_call 31; refine HN.out.mono ?_; intro e w1 hp; obtain ⟨hb1, ⟨hc, rfl⟩ | ⟨hc, g, rfl, hg, hi⟩⟩ := hp <;> refine Hid.out ?_)
  all_goals refine Nu.hid ?_
  · have HB := Nu.hid (HB0.out.trans (hb1.mono HB0.out.size))
    rw [← HC.out] at hc ⊢
    have hcb : (C != 0) = true := by simpa using hc
    have HC1 := Nu.hid hc
    clear hc hb1
    go_wp2
    go_ret2
    exact ⟨HB.out, .inl ⟨HC1.out, rfl⟩⟩
  · have HB := Nu.hid (HB0.out.trans (hb1.mono HB0.out.size))
    have HF := Nu.hid (faces_any g (2 * es.length) (Fa.ph es ls) w1 (steps_of hc hi))
    rw [← HC.out] at hc
    have HC1 := Nu.hid hc
    have hs1 := HB.out.size
    have t0 : ((0 : Int) != 0) = false := rfl
    clear hc hb1 hg hi
    go_wp2_with (go_at_call 32; refine HF.out.mono ?_; rintro e w2 ⟨v, vs, rfl, hr, hb⟩; refine Hid.out ?_)
    refine Nu.hid ?_
    have HB2 := Nu.hid (HB.out.trans (hb.mono HB.out.size))
    have HR := Nu.hid (hr.lower hs1)
    clear hb hr
    go_wp2
    go_ret2
    exact ⟨HB2.out, .inr ⟨HC1.out, v, vs, rfl, HR.out⟩⟩

end Go.Proofs.Ytfkmldopfhdbkaa

/-
  Faces, the program: Left.
-/
namespace Go.Proofs.Ytfkmldopfhdbkaa
open Go.RowKit Go.Sort

namespace Fa
/-- The number is laid at each of a face. -/
def put1 (j : Nat) (l : List Nat) (acc : List Int) : List Int := l.foldl (fun acc h => acc.set h (j : Int)) acc
/-- The first k faces are laid. -/
def lay (fs : List (List Nat)) : Nat → List Int → List Int
  | 0, acc => acc
  | k + 1, acc => put1 k (fs.getD k []) (lay fs k acc)
/-- By half-edge the number of its face. -/
def left (es : List (Int × Int)) (ls : List (List Int)) : List Int := lay (facesTo (ph es ls) (2 * es.length) (2 * es.length)) (facesTo (ph es ls) (2 * es.length) (2 * es.length)).length (List.replicate (2 * es.length) 0)

theorem put1_len (j : Nat) : ∀ (l : List Nat) (acc : List Int), (put1 j l acc).length = acc.length
  | [], _ => rfl
  | x :: l, acc => by
    unfold put1
    rw [List.foldl_cons]
    have := put1_len j l (acc.set x (j : Int))
    rw [List.length_set] at this
    exact this
theorem put1_snoc (j : Nat) (l : List Nat) (x : Nat) (acc : List Int) : put1 j (l ++ [x]) acc = (put1 j l acc).set x (j : Int) := by
  unfold put1
  rw [List.foldl_append]
  rfl
theorem lay_len (fs : List (List Nat)) : ∀ k acc, (lay fs k acc).length = acc.length
  | 0, _ => rfl
  | k + 1, acc => by rw [lay, put1_len, lay_len fs k]
theorem put1_at (j : Nat) {x : Nat} : ∀ (l : List Nat) (acc : List Int), x < acc.length → (put1 j l acc)[x]? = if x ∈ l then some (j : Int) else acc[x]?
  | [], acc, _ => by simp [put1]
  | y :: l, acc, h => by
    have ih := put1_at j l (acc.set y (j : Int)) (by rw [List.length_set]; exact h)
    have e : put1 j (y :: l) acc = put1 j l (acc.set y (j : Int)) := rfl
    rw [e, ih]
    by_cases h1 : x ∈ l
    · rw [if_pos h1, if_pos (List.mem_cons_of_mem _ h1)]
    · rw [if_neg h1, List.getElem?_set]
      by_cases h2 : y = x
      · subst h2
        rw [if_pos rfl, if_pos h, if_pos List.mem_cons_self]
      · rw [if_neg h2, if_neg]
        intro hc
        rcases List.mem_cons.1 hc with e1 | e1
        · exact h2 e1.symm
        · exact h1 e1

section
variable {n : Nat} {f m : Nat → Nat}
theorem lay_at (hp : Per n f) (ho : Orb n f m) {x : Nat} (hx : x < n) : ∀ k, k ≤ (facesTo f n n).length → (lay (facesTo f n n) k (List.replicate n 0))[x]? = some (if Co.num m x < k then (Co.num m x : Int) else 0)
  | 0, _ => by simp [lay, hx]
  | k + 1, hk => by
    obtain ⟨l, hl⟩ : ∃ l, (facesTo f n n)[k]? = some l := ⟨_, List.getElem?_eq_getElem (by omega)⟩
    obtain ⟨r, hr, hmr, rfl, hn⟩ := face_at hp ho hl
    have hf : Co.fix m r = true := by unfold Co.fix; simpa using hmr
    have e : (facesTo f n n).getD k [] = face f n r := by rw [List.getD_eq_getElem?_getD, hl]; rfl
    rw [lay, e, put1_at k _ _ (by rw [lay_len]; simpa using hx), lay_at hp ho hx k (by omega)]
    have hne := num_eq ho.norm hx hf
    rw [hn] at hne
    by_cases h1 : x ∈ face f n r
    · have h2 := ((mem_face hp ho hr).1 h1).2
      rw [hmr] at h2
      have h3 := hne.2 h2
      rw [if_pos h1, if_pos (by omega), h3]
    · have h2 : m x ≠ r := fun e => h1 ((mem_face hp ho hr).2 ⟨hx, by rw [hmr]; exact e⟩)
      have h3 : Co.num m x ≠ k := fun e => h2 (hne.1 e)
      rw [if_neg h1]
      by_cases h4 : Co.num m x < k
      · rw [if_pos h4, if_pos (by omega)]
      · rw [if_neg h4, if_neg (by omega)]
end
theorem left_len (es : List (Int × Int)) (ls : List (List Int)) : (left es ls).length = 2 * es.length := by
  unfold left
  rw [lay_len]
  simp
end Fa

/-- An error, or a list of one's own. -/
def LefQ (c : Int) (L : List Int) (w : World) (e : Ending) (w' : World) : Prop :=
  Below w.heap.size w w' ∧ ((c ≠ 0 ∧ e = .returned (.tuple #[.slice none 0 0, .int .i64 c])) ∨ (c = 0 ∧ ∃ v, e = .returned (.tuple #[v, .int .i64 0]) ∧ OwnZ w' w.heap.size v L))

set_option maxRecDepth 100000 in
set_option maxHeartbeats 8000000 in
theorem fleft_any (n : Int) (ao : Option Addr) (ca : Nat) (es : List (Int × Int)) (xo : Option Addr) (xc : Nat) (ls : List (List Int)) (w : World) (he : EdgesAt w ao es) (hl : es.length ≤ 4611686018427387904) (hx : RwsAt w xo ls) :
    Calls Try.prog 15 #[graphVal n ao es.length ca, .slice xo ls.length xc] w (LefQ (Ro.check n es ls).2 (Fa.left es ls) w) := by
  obtain ⟨i0, hi0, hz0, hz1, hz2⟩ := info_parts Try.infoNum
  have hb0 : Below w.heap.size w (w.alloc (.cells #[.int .i64 n, .slice ao es.length ca] 24)) := (Below.refl _ _).alloc (Nat.le_refl _) _
  have HN := Nu.hid (stepsOf_any n ao ca es xo xc ls _ (he.later hb0) hl (hx.later hb0))
  have HB0 := Nu.hid hb0
  unfold graphVal at HN ⊢
  obtain ⟨C, hC⟩ : ∃ C, C = (Ro.check n es ls).2 := ⟨_, rfl⟩
  have HC := Nu.hid hC
  rw [← hC]
  clear he hx hb0 hC
  go_enter Try.func15, Try.ntmps15
  go_wp2_with (go_at_call 31; refine HN.out.mono ?_; intro e w1 hp; obtain ⟨hb1, ⟨hc, rfl⟩ | ⟨hc, g, rfl, hg, hi⟩⟩ := hp <;> refine Hid.out ?_)
  all_goals refine Nu.hid ?_
  · have HB := Nu.hid (HB0.out.trans (hb1.mono HB0.out.size))
    rw [← HC.out] at hc ⊢
    have hcb : (C != 0) = true := by simpa using hc
    have HC1 := Nu.hid hc
    clear hc hb1
    go_wp2
    go_ret2
    exact ⟨HB.out, .inl ⟨HC1.out, rfl⟩⟩
  · have HB := Nu.hid (HB0.out.trans (hb1.mono HB0.out.size))
    have hst := steps_of hc hi
    have hfew := hst.few
    obtain ⟨m, ho⟩ := Fa.orb_ex hst.per
    have HO := Nu.hid ho
    have HPER := Nu.hid hst.per
    obtain ⟨N, hN⟩ : ∃ N, N = 2 * es.length := ⟨_, rfl⟩
    obtain ⟨fs, hfs⟩ : ∃ fs, fs = Fa.facesTo (Fa.ph es ls) (2 * es.length) (2 * es.length) := ⟨_, rfl⟩
    have HFS := Nu.hid hfs
    have HNN := Nu.hid hN
    have hmk : ∀ W, (Instr.makeSlice 36 (.int .i64 (N : Int)) (.int .i64 (N : Int))).run Try.prog W = .ok (.slice (some ⟨W.heap.size, 0, none⟩) N N) (W.alloc (.cells (madeCells #[.int .i64 0] N) 3)) := fun W => by
      have := run_make (P := Try.prog) W 36 3 i0 (.int .i64 0) Try.underlying36 hi0 hz0 .i64 .i64 (N : Int) (N : Int) (by omega) (Int.le_refl _) (by rw [hz2]; omega) (by omega)
      rw [this, hz1]
      simp [Value.cells]
    obtain ⟨w2, hw2⟩ : ∃ w2, w2 = w1.alloc (.cells (madeCells #[.int .i64 0] N) 3) := ⟨_, rfl⟩
    have hb2 : Below w1.heap.size w1 w2 := by rw [hw2]; exact (Below.refl _ _).alloc (Nat.le_refl _) _
    have hs2 : w1.heap.size < w2.heap.size := by rw [hw2]; simp
    have HI0 : Hid (IntsBlk w2 w1.heap.size (Fa.lay fs 0 (List.replicate N 0))) := by rw [hw2]; exact made_blk rfl
    have HF := Nu.hid (faces_any g (2 * es.length) (Fa.ph es ls) w2 (hst.later hb2))
    have HW2 := Nu.hid hw2
    have HB2 := Nu.hid (HB.out.trans (hb2.mono HB.out.size))
    rw [← HC.out] at hc
    have HC1 := Nu.hid hc
    have hs1 := HB.out.size
    have t0 : ((0 : Int) != 0) = false := rfl
    have hfl : fs.length ≤ N := by
      rw [hfs, hN, Fa.facesTo_len HPER.out HO.out (Nat.le_refl _)]
      exact Co.cntTo_le _ _
    have HMEM : Hid (∀ (k : Nat) (l : List Nat), fs[k]? = some l → l.length ≤ N ∧ ∀ x ∈ l, x < N) := fun k l hkl => by
      rw [hfs] at hkl
      obtain ⟨r, hr, -, rfl, -⟩ := Fa.face_at HPER.out HO.out hkl
      obtain ⟨p, hp⟩ := Fa.len_ex HPER.out hr
      refine ⟨?_, fun x hx => ?_⟩
      · rw [Fa.face_way hp, Fa.way_len, hN]
        exact hp.le
      · rw [hN]
        exact ((Fa.mem_face HPER.out HO.out hr).1 hx).1
    rw [← hN] at HF ⊢ hfew
    clear hc hb1 hg hi hst ho hb2 hw2 hfs hN
    go_wp2_with (go_at_call 32; rw [← HW2.out]; refine HF.out.mono ?_; rintro e w3 ⟨v, vs, rfl, hr, hb⟩; refine Hid.out ?_)
    refine Nu.hid ?_
    have hfz : Fa.facesZ (Fa.ph es ls) N = fs.map Fa.zl := by
      unfold Fa.facesZ
      rw [HFS.out, HNN.out]
    rw [hfz] at hr
    obtain ⟨fo, fc, hfe⟩ := row_shape hr
    rw [List.length_map] at hfe
    obtain ⟨K, hK⟩ : ∃ K, K = fs.length := ⟨_, rfl⟩
    rw [← hK] at hfe hfl
    subst hfe
    have HR := Nu.hid hr
    have hs3 := hb.size
    have HI3 := Nu.hid (HI0.out.later hb)
    have HB3 := Nu.hid (HB2.out.trans (hb.mono HB2.out.size))
    have HK := Nu.hid hK
    clear hb hr hfz hK hmk
    go_wp2
    go_loopw [28] (fun c wr => ∃ k : Nat, k ≤ K ∧ c = .int .i64 (k : Int) ∧ IntsBlk wr w1.heap.size (Fa.lay fs k (List.replicate N 0)) ∧ RowsZ wr w2.heap.size (.slice fo K fc) vs (fs.map Fa.zl) ∧ Below w.heap.size w wr) (fun c _ => K - (intOf c).toNat)
    case atStart => exact ⟨0, Nat.zero_le _, rfl, HI3.out, HR.out, HB3.out⟩
    case round =>
      obtain ⟨k, hk, rfl, hI, hR, hb⟩ := hrel
      obtain ⟨W0, rfl⟩ : ∃ W0, W0 = wr := ⟨_, rfl⟩
      have HI := Nu.hid hI
      have HRR := Nu.hid hR
      have HBB := Nu.hid hb
      have hwk : IntKind.i64.wrap ((k : Int) + 1) = (k : Int) + 1 := by rw [IntKind.wrap_i64]; omega
      by_cases hlt : k < K
      · have hlti : (k : Int) < (K : Int) := by omega
        have hk0 : (0 : Int) ≤ (k : Int) := by omega
        obtain ⟨l, hlk⟩ : ∃ l, fs[k]? = some l := ⟨_, List.getElem?_eq_getElem (by rw [← HK.out]; exact hlt)⟩
        have hlz : (fs.map Fa.zl)[k]? = some (Fa.zl l) := by rw [List.getElem?_map, hlk]; rfl
        obtain ⟨x, hx⟩ := hR.at' hlz
        obtain ⟨yo, yc, hye, hya, hyb⟩ := (hR.row k x _ hx hlz).form
        rw [Fa.zl_len] at hye
        obtain ⟨p, hp⟩ : ∃ p, p = l.length := ⟨_, rfl⟩
        rw [← hp] at hye
        subst hye
        obtain ⟨gf, cf, efo⟩ : ∃ g c, (Value.slice fo K fc) = .slice (some ⟨g, 0, none⟩) K c := by
          rcases hR.outer.2 with ⟨e, _⟩ | ⟨g, cap, cur, e, _⟩
          · cases e
            omega
          · cases e
            exact ⟨_, _, rfl⟩
        cases efo
        have hcr := World.ownsRow.cells hR.outer (g := gf) rfl k _ hx
        have ea : ((⟨gf, 0, none⟩ : Addr).add k) = ⟨gf, k, none⟩ := by
          by_cases h0 : k = 0 <;> simp [Addr.add, h0]
        rw [ea] at hcr
        obtain ⟨hpN, hxl⟩ := HMEM.out k l hlk
        rw [← hp] at hpN
        have HLK := Nu.hid hlk
        have HYA : Hid (∀ W, (∀ b, b ≠ w1.heap.size → W.heap[b]? = W0.heap[b]?) → IntsAt W yo (Fa.zl l)) := fun W hW j z hj => by
          obtain ⟨b, o, e, hc⟩ := hya j z hj
          refine ⟨b, o, e, ?_⟩
          have hb2 := (hyb _ e).1
          rw [← hc]
          simp only [World.cell?]
          rw [hW b (by have h2 : w2.heap.size ≤ b := hb2; omega)]
        have HXL := Nu.hid hxl
        have HP := Nu.hid hp
        clear hI hR hb hlk hlz hx hya hyb hxl hp ea
        go_wp2
        go_loopw [35] (fun c wr => ∃ i : Nat, i ≤ p ∧ c = .int .i64 (i : Int) ∧ IntsBlk wr w1.heap.size (Fa.put1 k (l.take i) (Fa.lay fs k (List.replicate N 0))) ∧ (∀ b, b ≠ w1.heap.size → wr.heap[b]? = W0.heap[b]?) ∧ RowsZ wr w2.heap.size (.slice (some ⟨gf, 0, none⟩) K fc) vs (fs.map Fa.zl) ∧ Below w.heap.size w wr) (fun c _ => p - (intOf c).toNat)
        case atStart => exact ⟨0, Nat.zero_le _, rfl, HI.out, fun _ _ => rfl, HRR.out, HBB.out⟩
        case round =>
          obtain ⟨i, hi', rfl, hI, hsm, hR, hb⟩ := hrel
          obtain ⟨W1, rfl⟩ : ∃ W1, W1 = wr := ⟨_, rfl⟩
          have HI1 := Nu.hid hI
          have HR1 := Nu.hid hR
          have HB1 := Nu.hid hb
          have HSM := Nu.hid hsm
          have hwi : IntKind.i64.wrap ((i : Int) + 1) = (i : Int) + 1 := by rw [IntKind.wrap_i64]; omega
          by_cases hip : i < p
          · have hipi : (i : Int) < (p : Int) := by omega
            have hi0' : (0 : Int) ≤ (i : Int) := by omega
            obtain ⟨x, hx⟩ : ∃ x, l[i]? = some x := ⟨_, List.getElem?_eq_getElem (by rw [← HP.out]; exact hip)⟩
            have hxN := HXL.out x (List.mem_of_getElem? hx)
            obtain ⟨b, o, rfl, hcx⟩ := HYA.out W1 hsm i (x : Int) (Fa.zl_at hx)
            have hxni : (x : Int) < (N : Int) := by omega
            have hx0 : (0 : Int) ≤ (x : Int) := by omega
            have hlen : (Fa.put1 k (l.take i) (Fa.lay fs k (List.replicate N 0))).length = N := by rw [Fa.put1_len, Fa.lay_len]; simp
            obtain ⟨z, hz⟩ : ∃ z, (Fa.put1 k (l.take i) (Fa.lay fs k (List.replicate N 0)))[x]? = some z := ⟨_, List.getElem?_eq_getElem (by rw [hlen]; exact hxN)⟩
            have hcz := hI.cell hz
            have hfr := hI.free x
            have HI3 : Hid (IntsBlk (W1.setCell ⟨w1.heap.size, x, none⟩ (.int .i64 (k : Int))) w1.heap.size (Fa.put1 k (l.take (i + 1)) (Fa.lay fs k (List.replicate N 0)))) := by
              have e1 : l.take (i + 1) = l.take i ++ [x] := by
                rw [List.take_add_one, hx]
                rfl
              rw [e1, Fa.put1_snoc]
              exact hI.set x (k : Int)
            have HS3 : Hid (∀ b, b ≠ w1.heap.size → (W1.setCell ⟨w1.heap.size, x, none⟩ (.int .i64 (k : Int))).heap[b]? = W0.heap[b]?) := fun b hb => (blk_same hb _).trans (hsm b hb)
            have HR3 : Hid (RowsZ (W1.setCell ⟨w1.heap.size, x, none⟩ (.int .i64 (k : Int))) w2.heap.size (.slice (some ⟨gf, 0, none⟩) K fc) vs (fs.map Fa.zl)) := hR.kept fun b' hb' _ => blk_same (fun e => by
              have : w2.heap.size ≤ b' := by
                rcases hb' with hb' | ⟨u, z, hz, hzb⟩
                · exact (World.ownsRow.lt hR.outer b' hb').1
                · obtain ⟨l, hl⟩ := hR.at hz
                  exact (World.ownsRow.lt (hR.row u z l hz hl) b' hzb).1
              omega) _
            have HB3' : Hid (Below w.heap.size w (W1.setCell ⟨w1.heap.size, x, none⟩ (.int .i64 (k : Int)))) := hb.setCell hs1 _
            clear hI hR hb hx hz hlen hsm
            go_wp2
            go_roundw
            case rel => exact ⟨i + 1, by omega, by go_num, HI3.out, HS3.out, HR3.out, HB3'.out⟩
            case measure => simp [intOf]; omega
          · have hd : ¬ (i : Int) < (p : Int) := by omega
            have HI3 : Hid (IntsBlk W1 w1.heap.size (Fa.lay fs (k + 1) (List.replicate N 0))) := by
              have e1 : l.take i = l := List.take_of_length_le (by rw [← HP.out]; omega)
              rw [e1] at hI
              have e2 : fs.getD k [] = l := by rw [List.getD_eq_getElem?_getD, HLK.out]; rfl
              show IntsBlk W1 w1.heap.size (Fa.put1 k (fs.getD k []) _)
              rw [e2]
              exact hI
            clear hI hR hb hsm
            go_wp2
            go_roundw
            case rel => exact ⟨k + 1, by omega, by go_num, HI3.out, HR1.out, HB1.out⟩
            case measure => simp [intOf]; omega
      · have hd : ¬ (k : Int) < (K : Int) := by omega
        have HIe : Hid (OwnZ W0 w.heap.size (.slice (some ⟨w1.heap.size, 0, none⟩) N N) (Fa.left es ls)) := by
          have e1 : Fa.lay fs k (List.replicate N 0) = Fa.left es ls := by
            unfold Fa.left
            rw [← HFS.out, ← HNN.out, ← HK.out]
            have : k = K := by omega
            rw [this]
          rw [e1] at hI
          exact hI.own hs1 (by rw [Fa.left_len, HNN.out]) hfew
        clear hI hR hb
        go_wp2
        go_ret2
        exact ⟨HBB.out, .inr ⟨HC1.out, _, rfl, HIe.out⟩⟩

end Go.Proofs.Ytfkmldopfhdbkaa
