import Derived.Test.YtodlejemkihjnaaDoorMg13
import Derived.Lib.AppendIntMem
import Derived.Lib.ItoaNum
import Derived.Lib.ItoaLen
import Derived.Laws.IdiomStrings
import Derived.Deep.RegionHeld3
import Derived.Test.YtodlejemkihjnaaDoorMg07
/-
  The table of the powers of ten; what Line answers: the numbers' numerals, a blank between each two, a line's end behind the last.
-/
namespace Go.Proofs.YtodlejemkihjnaaDoor
open Go.RowKit

/-- The table of the powers of ten reads as its initialiser lays it. -/
def Tab (w : World) : Prop := Lib.TabIs Tryd.prog w "internal/strconv.uint64pow10" .u64 Lib.pow10Tab

theorem Tab.below {w w' : World} (h : Tab w) (hb : Below w.heap.size w w') : Tab w' := Lib.tabBelow_of_tabIs h w' hb

/-- The first k numbers as text, blanks between. -/
def lineTo (z : Nat → Int) : Nat → List UInt8
  | 0 => []
  | k + 1 => (if 0 < k then lineTo z k ++ [32] else lineTo z k) ++ Lib.itoa (z k)

theorem lineTo_length (z : Nat → Int) (n : Nat) (hz : ∀ i, i < n → -9223372036854775808 ≤ z i ∧ z i ≤ 9223372036854775807) : ∀ k, k ≤ n → (lineTo z k).length ≤ 22 * k
  | 0, _ => by simp [lineTo]
  | k + 1, hk => by
    have ih := lineTo_length z n hz k (by omega)
    have := Lib.itoa_length_le (z k) (hz k (by omega)).1 (hz k (by omega)).2
    simp only [lineTo]
    by_cases h : 0 < k
    · rw [if_pos h]; simp; omega
    · rw [if_neg h]; simp; omega

/-- The numbers z 0 .. z (n - 1) lie at ao. -/
def HasInts (w : World) (ao : Option Addr) (n : Nat) (z : Nat → Int) : Prop :=
  ∀ i, i < n → (-9223372036854775808 ≤ z i ∧ z i ≤ 9223372036854775807) ∧ ∃ tb to, ao = some ⟨tb, to, none⟩ ∧ w.cell? ⟨tb, to + i, none⟩ = some (.int .i64 (z i))

theorem HasInts.later {w w' : World} {ao : Option Addr} {n : Nat} {z : Nat → Int} (h : HasInts w ao n z) (hg : Below w.heap.size w w') : HasInts w' ao n z := by
  intro i hi
  obtain ⟨hb, tb, to, e, hc⟩ := h i hi
  exact ⟨hb, tb, to, e, (hg.cell (p := ⟨tb, to + i, none⟩) (block_lt_of_cell hc)).trans hc⟩

theorem Tryd.infoByte : (Tryd.prog.info? 5).map (fun i => (i.zero, i.size, i.bytes)) = some (some (.int .u8 0), 1, 1) := by kernel_rfl

theorem new_one (W : World) (v : Value) (e : TypeId) : ∀ j u, [v][j]? = some u → (W.alloc (.cells #[v] e)).cell? ((⟨W.heap.size, 0, none⟩ : Addr).add j) = some u := by
  intro j u' hj
  match j, hj with
  | 0, hj => simp at hj; subst hj; simp [Addr.add]

set_option maxRecDepth 100000 in
set_option maxHeartbeats 4000000 in
theorem numline_any (ao : Option Addr) (n cap : Nat) (z : Nat → Int) (w : World) (hz : HasInts w ao n z) (hn : n ≤ 100000000) (ht : Tab w) :
    Calls Tryd.prog 28 #[.slice ao n cap] w fun e w' => e = .returned (.string ⟨(lineTo z n ++ [10]).toArray⟩) ∧ Below w.heap.size w w' := by
  obtain ⟨i0, hi, hz0, hz1, hz2⟩ := info_parts Tryd.infoByte
  have hT := Lib.tabBelow_of_tabIs ht
  have HL := Nu.hid (lineTo_length z n (fun i hi => (hz i hi).1))
  have HZ := Nu.hid hz
  have HT := Nu.hid hT
  clear hz ht hT
  go_enter Tryd.func28, Tryd.ntmps28
  go_wp2
  go_loopw [3, 8] (fun v c wr => ∃ k : Nat, k ≤ n ∧ c = .int .i64 k ∧ wr.ownsRow w.heap.size 5 1 v (lineTo z k).length (Lib.byteCells (lineTo z k)) ∧ Below w.heap.size w wr) (fun _ c _ => n - (intOf c).toNat)
  case atStart => exact ⟨0, Nat.zero_le _, rfl, World.ownsRow_nil _ _ _ _, Below.refl _ _⟩
  case round =>
    obtain ⟨k, hk, rfl, hown, hb⟩ := hrel
    have hll := HL.out k hk
    have hBw := hb.size
    by_cases hlt : k < n
    · have hlti : (k : Int) < (n : Int) := by omega
      obtain ⟨⟨b0, b1⟩, tb, to, rfl, cq⟩ := (HZ.out.later hb) k hlt
      have HS := Nu.hid (show lineTo z (k + 1) = (if 0 < k then lineTo z k ++ [32] else lineTo z k) ++ Lib.itoa (z k) from rfl)
      generalize lineTo z k = L at *
      have HC := Nu.hid cq
      by_cases h0 : 0 < k
      · have h0i : (0 : Int) < (k : Int) := by omega
        go_wp2_with (at_builtin; refine wpList_append_own _ rfl _ _ 26 rfl w.heap.size 5 i0 (.int .u8 0) 1 1 Tryd.underlying26 hi hz0 hz1 hz2 rfl (by decide) _ _ _ rfl (hown.alloc _) ⟨wr.heap.size, 0, none⟩ 1 1 [.int .u8 32] rfl rfl (new_one _ _ _) (by intro u' hu'; simp at hu'; subst hu'; rfl) (by unfold maxLen; omega) (by omega) (by simp; omega) ?_; refine Hid.out ?_)
        refine Nu.hid ?_
        intro v1 w1 hown1 hg1 _
        have hb1 : Below w.heap.size w w1 := (hb.alloc hBw _).grown hg1 (by simp; omega) (fun q hq => (hown.lt q hq).1)
        go_wp2_with (go_at_call 34; refine (Tryd.strconv_AppendInt w.heap.size (L.length + 1) (z k) b0 b1 v1 _ w1 hown1 hb1.size (by omega) (HT.out.on hb1)).mono ?_; rintro e w2 ⟨v2, rfl, hown2, hb2, -⟩; refine Hid.out ?_)
        refine Nu.hid ?_
        have hb02 := hb1.trans hb2
        clear hown1 hg1 hb1 hb2 cq
        go_wp2
        go_roundw
        case rel =>
          refine ⟨k + 1, by omega, by go_num, ?_, hb02⟩
          have e1 : (L ++ [32] ++ Lib.itoa (z k)).length = L.length + 1 + (Lib.itoa (z k)).length := by simp; omega
          have e2 : Lib.byteCells (L ++ [32] ++ Lib.itoa (z k)) = Lib.byteCells L ++ [.int .u8 32] ++ Lib.byteCells (Lib.itoa (z k)) := by simp [Lib.byteCells]
          rw [HS.out, if_pos h0, e1, e2]
          exact hown2
        case measure => simp [intOf]; omega
      · have h0i : ¬ ((0 : Int) < (k : Int)) := by omega
        go_wp2_with (go_at_call 34; refine (Tryd.strconv_AppendInt w.heap.size L.length (z k) b0 b1 _ _ wr hown hBw (by omega) (HT.out.on hb)).mono ?_; rintro e w2 ⟨v2, rfl, hown2, hb2, -⟩; refine Hid.out ?_)
        refine Nu.hid ?_
        have hb02 := hb.trans hb2
        clear hb2 cq
        go_wp2
        go_roundw
        case rel =>
          refine ⟨k + 1, by omega, by go_num, ?_, hb02⟩
          rw [HS.out, if_neg h0]
          simpa [Lib.byteCells] using hown2
        case measure => simp [intOf]; omega
    · have hd : ¬ ((k : Int) < (n : Int)) := by omega
      have hkn : k = n := by omega
      subst hkn
      obtain ⟨L, hL⟩ : ∃ L, L = lineTo z k := ⟨_, rfl⟩
      rw [← hL] at hown hll
      have HLL := Nu.hid hL
      clear hL
      go_wp2_with (at_builtin; refine wpList_append_own _ rfl _ _ 26 rfl w.heap.size 5 i0 (.int .u8 0) 1 1 Tryd.underlying26 hi hz0 hz1 hz2 rfl (by decide) _ _ _ rfl (hown.alloc _) ⟨wr.heap.size, 0, none⟩ 1 1 [.int .u8 10] rfl rfl (new_one _ _ _) (by intro u' hu'; simp at hu'; subst hu'; rfl) (by unfold maxLen; omega) (by omega) (by simp; omega) ?_; refine Hid.out ?_)
      refine Nu.hid ?_
      intro v1 w1 hown1 hg1 _
      have hb1 : Below w.heap.size w w1 := (hb.alloc hBw _).grown hg1 (by simp; omega) (fun q hq => (hown.lt q hq).1)
      have eL : Lib.byteCells L ++ [Value.int .u8 10] = Lib.byteCells (L ++ [10]) := by simp [Lib.byteCells]
      rw [eL] at hown1
      rcases hown1.2 with ⟨-, h0⟩ | ⟨gb, c1, cur, rfl, -⟩
      · omega
      · have hcv := run_convert_bytes_back (P := Tryd.prog) w1 26 9 5 ⟨gb, 0, none⟩ c1 (L ++ [10]) Tryd.underlying26 Tryd.underlying5 Tryd.underlying9 (fun j hj => hown1.cells (g := gb) rfl j _ (by rw [Lib.byteCells, List.getElem?_map, List.getElem?_eq_getElem hj]; rfl))
        have eln : (L ++ [(10 : UInt8)]).length = L.length + 1 := by simp
        rw [eln] at hcv
        clear eln
        have HOW := Nu.hid hown1
        clear hown1 hg1
        go_wp2
        go_ret
        rw [← HLL.out]
        exact ⟨rfl, hb1⟩

end Go.Proofs.YtodlejemkihjnaaDoor

/-
  The program's writer: a line, the head.
-/
namespace Go.Proofs.YtodlejemkihjnaaDoor
open Go.RowKit

namespace Ce
theorem jn_snoc (x : Int) : ∀ m : List Int, jn (m ++ [x]) = if m = [] then dg x else jn m ++ 32 :: dg x
  | [] => rfl
  | y :: r => by
    rw [if_neg (by simp), List.cons_append, jn_jt, jn_jt]
    simp [jt]
theorem lineTo_jn {l : List Int} {z : Nat → Int} (hz : ∀ i x, l[i]? = some x → z i = x) (h0 : ∀ x ∈ l, 0 ≤ x) : ∀ k, k ≤ l.length → lineTo z k = jn (l.take k)
  | 0, _ => rfl
  | k + 1, hk => by
    have ih := lineTo_jn hz h0 k (by omega)
    have hx : l[k]? = some l[k] := List.getElem?_eq_getElem (by omega)
    have ht : l.take (k + 1) = l.take k ++ [l[k]] := by rw [List.take_add_one, hx]; rfl
    rw [ht, jn_snoc]
    show (if 0 < k then lineTo z k ++ [32] else lineTo z k) ++ Lib.itoa (z k) = _
    rw [hz k _ hx, Nu.itoa_small (h0 _ (List.mem_of_getElem? hx)), ih]
    by_cases hk0 : k = 0
    · subst hk0
      rw [if_neg (by omega), if_pos (by simp)]
      rfl
    · have hne : l.take k ≠ [] := fun e => by
        have := congrArg List.length e
        rw [List.length_take, List.length_nil] at this
        omega
      rw [if_pos (by omega), if_neg hne]
      simp [dg]
theorem jt_len (r : List Int) : 2 * r.length ≤ (jt r).length := by
  induction r with
  | nil => simp [jt]
  | cons x r ih =>
    have := dg_some x
    have e : jt (x :: r) = 32 :: dg x ++ jt r := rfl
    rw [e]
    simp
    omega
theorem line_lo (l : List Int) : 2 * l.length ≤ (lineB l).length := by
  unfold lineB
  cases l with
  | nil => simp
  | cons x r =>
    have := jt_len r
    have := dg_some x
    rw [jn_jt]
    simp
    omega
theorem jt_hi (r : List Int) (h : ∀ x ∈ r, okN x) : (jt r).length ≤ 10 * r.length := by
  induction r with
  | nil => simp [jt]
  | cons x r ih =>
    have := dg_short (h x (by simp))
    have := ih (fun y hy => h y (by simp [hy]))
    have e : jt (x :: r) = 32 :: dg x ++ jt r := rfl
    rw [e]
    simp
    omega
theorem line_hi (l : List Int) (h : ∀ x ∈ l, okN x) : (lineB l).length ≤ 10 * l.length + 1 := by
  unfold lineB
  cases l with
  | nil => simp [jn]
  | cons x r =>
    have := jt_hi r (fun y hy => h y (by simp [hy]))
    have := dg_short (h x (by simp))
    rw [jn_jt]
    simp
    omega
end Ce

/-- nums.Line of such numbers. -/
theorem pline17_any {ao : Option Addr} {cap : Nat} {l : List Int} {w : World} (ha : IntsAt w ao l) (hok : ∀ x ∈ l, Ce.okN x) (hl : l.length ≤ 100000000) (ht : Tab w) :
    Calls Tryd.prog 28 #[.slice ao l.length cap] w fun e w' => e = .returned (.string ⟨(Ce.lineB l).toArray⟩) ∧ Below w.heap.size w w' := by
  have hz : ∀ i x, l[i]? = some x → (fun i => l.getD i 0) i = x := fun i x hx => by simp [hx]
  have hI : HasInts w ao l.length (fun i => l.getD i 0) := fun i hi => by
    have hx : l[i]? = some l[i] := List.getElem?_eq_getElem hi
    obtain ⟨b, o, e, hc⟩ := ha i _ hx
    have := hok _ (List.mem_of_getElem? hx)
    have h0 := this.1
    have h9 := this.2
    rw [hz i _ hx]
    exact ⟨⟨by omega, by omega⟩, b, o, e, hc⟩
  have h := numline_any ao l.length cap _ w hI hl ht
  rw [Ce.lineTo_jn hz (fun x hx => (hok x hx).1) l.length (Nat.le_refl _), List.take_length] at h
  exact h
end Go.Proofs.YtodlejemkihjnaaDoor

/-
  The program's writer: a line, the head.
-/
namespace Go.Proofs.YtodlejemkihjnaaDoor
open Go.RowKit

theorem IsWrt.setLong {w : World} {B b : Nat} {L : List UInt8} {t : Bool} (h : IsWrt w B b L t) : IsWrt (w.setCell ⟨b, 2, none⟩ (.bool true)) B b L true := h.imp (·.setLong) (·.setLong)
theorem IsWrt.base {w : World} {B b : Nat} {L : List UInt8} {t : Bool} (h : IsWrt w B b L t) : B ≤ b ∧ b < w.heap.size := by
  obtain ⟨p, h⟩ := h.some
  exact ⟨h.1, h.lt⟩
set_option maxHeartbeats 2000000 in
set_option maxRecDepth 100000 in
theorem wline17_long {w : World} {B b : Nat} {L : List UInt8} {t : Bool} (h : IsWrt w B b L t) {ao : Option Addr} {m c : Nat} (hm : m ≤ 4611686018427387) (hlong : t = true ∨ 33554432 < L.length + 2 * m) (hL : L.length ≤ 70368744177664) :
    Calls Tryd.prog 21 #[.pointer (some ⟨b, 0, none⟩), .slice ao m c] w fun e w' => e = .returned (.tuple #[]) ∧ IsWrt w' B b L true ∧ Below B w w' := by
  obtain ⟨p, h1⟩ := h.some
  obtain ⟨vo, vc, c0, c1, c2, fz, hsh⟩ := h1.cells
  have hbb := h.base
  have HW := Nu.hid h
  have HF := Nu.hid h.setLong
  clear h1 hsh h
  obtain ⟨K, hK⟩ : ∃ K, L.length = K := ⟨_, rfl⟩
  have HLEN : Hid (∀ _ : Nat, Calls Tryd.prog 22 #[.pointer (some ⟨b, 0, none⟩)] w fun e w' => e = .returned (.int .i64 (K : Int)) ∧ w' = w) := fun _ => by rw [← hK]; exact wlen17_any HW.out
  rw [hK] at c1 hlong hL
  have hB : Below B w (w.setCell ⟨b, 2, none⟩ (.bool true)) := (Below.refl B w).setCell (p := ⟨b, 2, none⟩) hbb.1 _
  cases t with
  | true =>
    clear hlong
    go_enter Tryd.func21, Tryd.ntmps21
    go_wp2
    refine bodyPost_ret (v := .tuple #[]) (by simp [results, Tryd.results21]) rfl ?_
    exact ⟨rfl, HF.out, hB⟩
  | false =>
    have hl2 : (33554432 : Int) < (K : Int) + 2 * (m : Int) := by
      rcases hlong with h | h
      · cases h
      · omega
    clear hlong
    go_enter Tryd.func21, Tryd.ntmps21
    go_wp2_with (go_at_call 22; refine (HLEN.out 0).mono ?_; rintro e w' ⟨rfl, rfl⟩)
    refine bodyPost_ret (v := .tuple #[]) (by simp [results, Tryd.results21]) rfl ?_
    exact ⟨rfl, HF.out, hB⟩

set_option maxHeartbeats 2000000 in
set_option maxRecDepth 100000 in
theorem wline17_more {w : World} {B b : Nat} {L : List UInt8} (h : IsWrt w B b L false) (hB : B ≤ w.heap.size) {ao : Option Addr} {c : Nat} {l : List Int} (ha : IntsAt w ao l) (hok : ∀ x ∈ l, Ce.okN x) (ht : Tab w) (hl : L.length + 2 * l.length ≤ 33554432) :
    Calls Tryd.prog 21 #[.pointer (some ⟨b, 0, none⟩), .slice ao l.length c] w fun e w' => e = .returned (.tuple #[]) ∧ IsWrt w' B b (L ++ Ce.lineB l) false ∧ Below B w w' := by
  obtain ⟨p, h1⟩ := h.some
  obtain ⟨vo, vc, c0, c1, c2, fz, hsh⟩ := h1.cells
  have hbb := h.base
  have HW := Nu.hid h
  have hhi := Ce.line_hi l hok
  have HLINE : Hid (∀ V, Below w.heap.size w V → Calls Tryd.prog 28 #[.slice ao l.length c] V fun e w' => e = .returned (.string ⟨(Ce.lineB l).toArray⟩) ∧ Below V.heap.size V w') := fun V hV => pline17_any (ha.later hV) hok (by omega) (Lib.tabBelow_of_tabIs ht V hV)
  have HWR : Hid (∀ V, Below w.heap.size w V → Calls Tryd.prog 27 #[.pointer (some ⟨b, 0, none⟩), .string ⟨(Ce.lineB l).toArray⟩] V fun e w' => (∃ v, e = .returned v) ∧ IsWrt w' B b (L ++ Ce.lineB l) false ∧ Below B V w') := fun V hV => wwrite17_any (HW.out.later hV) (Nat.le_trans hB hV.size) (by omega)
  have hbr : Below w.heap.size w w.drew := (Below.refl _ _).drew
  obtain ⟨S, hS⟩ : ∃ S, Ce.lineB l = S := ⟨_, rfl⟩
  obtain ⟨m, hm⟩ : ∃ m, l.length = m := ⟨_, rfl⟩
  obtain ⟨K, hK⟩ : ∃ K, L.length = K := ⟨_, rfl⟩
  have HLEN : Hid (∀ _ : Nat, Calls Tryd.prog 22 #[.pointer (some ⟨b, 0, none⟩)] w fun e w' => e = .returned (.int .i64 (K : Int)) ∧ w' = w) := fun _ => by rw [← hK]; exact wlen17_any HW.out
  rw [hS, hm] at HLINE
  rw [hS] at HWR ⊢
  rw [hm] at hl ⊢
  rw [hK] at c1 hl
  have hl2 : ¬ ((33554432 : Int) < (K : Int) + 2 * (m : Int)) := by omega
  clear h1 hsh h hhi hm hK hS ha hok ht
  go_enter Tryd.func21, Tryd.ntmps21
  go_wp2_with (go_at_call 22; refine (HLEN.out 0).mono ?_; rintro e w' ⟨rfl, hw'⟩; obtain rfl := hw'.symm; clear hw')
  go_region_held3 (fun V => Below B w V)
    (first | assumption | exact hbr.mono hB)
    (first
      | (go_at_call 28; with_reducible refine (HLINE.out _ (by first | assumption | exact hbr)).mono ?_; rintro e w3 ⟨rfl, hb3⟩; have hbz : Below w.heap.size w w3 := hbr.trans (hb3.mono hbr.size); have hbB : Below B w w3 := hbz.mono hB)
      | (go_at_call 27; with_reducible refine (HWR.out _ (by assumption)).mono ?_; rintro e w4 ⟨⟨v4, rfl⟩, hw4, hb4⟩; have hbF : Below B w w4 := Below.trans (by assumption) hb4))
  go_wp2
  go_end0
  exact ⟨rfl, hw4, hbF⟩

set_option maxHeartbeats 2000000 in
set_option maxRecDepth 100000 in
theorem whead17_any {w : World} {B b : Nat} (h : IsWrt w B b [] false) (hB : B ≤ w.heap.size) {S : List UInt8} (hS : S.length ≤ 2) {k : Int} (hk : Ce.okN k) (ht : ∀ W, Below B w W → Tab W) :
    Calls Tryd.prog 20 #[.pointer (some ⟨b, 0, none⟩), .string ⟨S.toArray⟩, .int .i64 k] w fun e w' => e = .returned (.tuple #[]) ∧ IsWrt w' B b (S ++ Ce.lineB [k]) false ∧ Below B w w' := by
  have hbb := h.base
  have HWR := Nu.hid (wwrite17_any h hB (S := S) (by simp; omega))
  have HT := Nu.hid ht
  clear h ht
  go_enter Tryd.func20, Tryd.ntmps20
  go_wp2_with (go_at_call 27; refine HWR.out.mono ?_; rintro e w1 ⟨⟨v1, rfl⟩, hw1, hb1⟩; refine Hid.out ?_)
  refine Nu.hid ?_
  rw [List.nil_append] at hw1
  have hB1 : B ≤ w1.heap.size := Nat.le_trans hB hb1.size
  have ha1 : Below w1.heap.size w1 (w1.alloc (.cells #[.int .i64 k] 3)) := (Below.refl _ _).alloc (Nat.le_refl _) _
  have hb2 := hb1.trans (ha1.mono hB1)
  have hI : IntsAt (w1.alloc (.cells #[.int .i64 k] 3)) (some ⟨w1.heap.size, 0, none⟩) [k] := IntsBlk.at (l := [k]) (heap_alloc_new w1 _)
  have HL := Nu.hid (wline17_more (c := 1) (hw1.later ha1) (by simp; omega) hI (fun x hx => by rw [List.mem_singleton.1 hx]; exact hk) (HT.out _ hb2) (by simp; omega))
  have HB2 := Nu.hid hb2
  clear HWR hw1 hb1 hb2 hI
  go_wp2_with (go_at_call 21; refine HL.out.mono ?_; rintro e w3 ⟨rfl, hw3, hb3⟩)
  go_end0
  exact ⟨rfl, hw3, HB2.out.trans hb3⟩
end Go.Proofs.YtodlejemkihjnaaDoor

/-
  Certificates as text, pure: faults lie within the text; one text is one certificate's; texts cut short or with more behind.
-/
namespace Go.Proofs.YtodlejemkihjnaaDoor
namespace Ce
open Nu
section
variable {B : Nat → Int} {n : Nat}

theorem lstF_le (hT : Txt B n) : ∀ (f : Nat) (l0 : List Int) (i : Nat) {e : Nat}, i ≤ n → lstF B n f l0 i = .error e → e ≤ n
  | 0, _, _, _, hi, h => by cases h; exact hi
  | f + 1, l0, i, e, hi, h => by
    unfold lstF at h
    cases hm : num B n i with
    | none => rw [hm] at h; cases h; exact hi
    | some q =>
      obtain ⟨v, k⟩ := q
      rw [hm] at h
      dsimp only at h
      obtain ⟨-, -, -, n4⟩ := num_is hi hm
      by_cases hh : l0 ≠ [] ∧ v < l0.headD 0
      · rw [if_pos hh] at h; cases h; exact hi
      · rw [if_neg hh] at h
        by_cases h10 : B k = 10
        · rw [if_pos h10] at h; cases h
        · rw [if_neg h10] at h
          by_cases h32 : B k = 32
          · rw [if_pos h32] at h
            have := in_of hT h32 (by decide)
            exact lstF_le hT f _ (k + 1) (by omega) h
          · rw [if_neg h32] at h; cases h; exact n4
theorem lst_le (hT : Txt B n) {i e : Nat} (hi : i ≤ n) (h : lst B n i = .error e) : e ≤ n := by
  unfold lst at h
  by_cases h10 : B i = 10
  · rw [if_pos h10] at h; cases h
  · rw [if_neg h10] at h
    exact lstF_le hT _ _ i hi h
theorem edg_le (hT : Txt B n) {i e : Nat} {last : Int × Int} (hi : i ≤ n) (h : edg B n i last = .error e) : e ≤ n := by
  unfold edg at h
  cases hm : num B n i with
  | none => rw [hm] at h; cases h; exact hi
  | some q =>
    obtain ⟨u, k⟩ := q
    rw [hm] at h
    dsimp only at h
    obtain ⟨-, -, -, n4⟩ := num_is hi hm
    by_cases h32 : B k ≠ 32
    · rw [if_pos h32] at h; cases h; exact n4
    · rw [if_neg h32] at h
      have hlt := in_of hT (Classical.byContradiction h32 : B k = 32) (by decide)
      cases hm2 : num B n (k + 1) with
      | none => rw [hm2] at h; cases h; omega
      | some q =>
        obtain ⟨v, e2⟩ := q
        rw [hm2] at h
        dsimp only at h
        obtain ⟨-, -, -, m4⟩ := num_is (by omega) hm2
        by_cases c1 : v ≤ u
        · rw [if_pos c1] at h; cases h; omega
        · rw [if_neg c1] at h
          by_cases c2 : u < last.1 ∨ (u = last.1 ∧ v ≤ last.2)
          · rw [if_pos c2] at h; cases h; exact hi
          · rw [if_neg c2] at h
            by_cases c3 : B e2 ≠ 10
            · rw [if_pos c3] at h; cases h; exact m4
            · rw [if_neg c3] at h; cases h
theorem lists_le (hT : Txt B n) : ∀ (k : Nat) (ls0 : List (List Int)) (i : Nat) {e : Nat}, i ≤ n → lists B n k ls0 i = .error e → e ≤ n
  | 0, _, _, _, _, h => by cases h
  | k + 1, ls0, i, e, hi, h => by
    have h : (match lst B n i with | .error e => .error e | .ok (l, j) => lists B n k (ls0 ++ [l]) j) = (Except.error e : Except Nat (List (List Int) × Nat)) := h
    cases hl : lst B n i with
    | error e' => rw [hl] at h; cases h; exact lst_le hT hi hl
    | ok q =>
      obtain ⟨l, j⟩ := q
      rw [hl] at h
      exact lists_le hT k _ j (lst_is hT hi hl).2.2.2 h
theorem edges_le (hT : Txt B n) : ∀ (k : Nat) (es0 : List (Int × Int)) (last : Int × Int) (i : Nat) {e : Nat}, i ≤ n → edges B n k es0 last i = .error e → e ≤ n
  | 0, _, _, _, _, _, h => by cases h
  | k + 1, es0, last, i, e, hi, h => by
    have h : (match edg B n i last with | .error e => .error e | .ok (p, j) => edges B n k (es0 ++ [p]) p j) = (Except.error e : Except Nat (List (Int × Int) × Nat)) := h
    cases hl : edg B n i last with
    | error e' => rw [hl] at h; cases h; exact edg_le hT hi hl
    | ok q =>
      obtain ⟨p, j⟩ := q
      rw [hl] at h
      exact edges_le hT k _ p j (edg_is hT hi hl).2.2.2.2 h
theorem bdy_le (hT : Txt B n) {pl : Bool} {k i e : Nat} (hi : i ≤ n) (h : bdy B n pl k i = .error e) : e ≤ n := by
  unfold bdy at h
  split at h
  · cases hl : lists B n k [] i with
    | error e' => rw [hl] at h; cases h; exact lists_le hT k _ i hi hl
    | ok q => rw [hl] at h; cases h
  · cases hl : edges B n k [] (-1, 0) i with
    | error e' => rw [hl] at h; cases h; exact edges_le hT k _ _ i hi hl
    | ok q => rw [hl] at h; cases h

/-- A fault is told with the zero certificate, within the text. -/
theorem parse_fault (hT : Txt B n) : (parse B n).2.2 = 0 ∨ ((parse B n).1 = zero ∧ 0 ≤ (parse B n).2.1 ∧ (parse B n).2.1 ≤ n ∧ ((parse B n).2.2 = 170 ∧ n ≤ 33554432 ∨ (parse B n).2.2 = 10)) := by
  have mk : ∀ {x : Cert × Int × Int} {p : Int}, x = (zero, p, 170) → 0 ≤ p → p ≤ n → n ≤ 33554432 → x.2.2 = 0 ∨ (x.1 = zero ∧ 0 ≤ x.2.1 ∧ x.2.1 ≤ n ∧ (x.2.2 = 170 ∧ n ≤ 33554432 ∨ x.2.2 = 10)) := fun {x p} h h0 h1 h2 => by
    subst h
    exact .inr ⟨rfl, h0, h1, .inl ⟨rfl, h2⟩⟩
  by_cases c0 : 33554432 < n
  · unfold parse
    rw [if_pos c0]
    exact .inr ⟨rfl, by decide, by dsimp only; omega, .inr rfl⟩
  · have hm' : n ≤ 33554432 := by omega
    by_cases c1 : B 0 ≠ 112 ∧ B 0 ≠ 110
    · exact mk (p := 0) (by unfold parse; rw [if_neg c0, if_pos c1]) (by decide) (by omega) hm'
    · have h0 : 0 < n := by
        by_cases h : B 0 = 112
        · exact in_of hT h (by decide)
        · exact in_of hT (show B 0 = 110 by omega) (by decide)
      by_cases c2 : B 1 ≠ 32
      · exact mk (p := 1) (by unfold parse; rw [if_neg c0, if_neg c1, if_pos c2]) (by decide) (by omega) hm'
      · have hn1 := in_of hT (Classical.byContradiction c2 : B 1 = 32) (by decide)
        cases hm : num B n 2 with
        | none => exact mk (p := 2) (by unfold parse; rw [if_neg c0, if_neg c1, if_neg c2, hm]) (by decide) (by omega) hm'
        | some q =>
          obtain ⟨k, i⟩ := q
          obtain ⟨-, -, -, n4⟩ := num_is (by omega) hm
          by_cases c3 : most (decide (B 0 = 112)) < k
          · exact mk (p := 2) (by unfold parse; rw [if_neg c0, if_neg c1, if_neg c2, hm]; dsimp only; rw [if_pos c3]) (by decide) (by omega) hm'
          · by_cases c4 : B i ≠ 10
            · exact mk (p := i) (by unfold parse; rw [if_neg c0, if_neg c1, if_neg c2, hm]; dsimp only; rw [if_neg c3, if_pos c4]) (by omega) (by omega) hm'
            · have hni := in_of hT (Classical.byContradiction c4 : B i = 10) (by decide)
              cases hb : bdy B n (decide (B 0 = 112)) k.toNat (i + 1) with
              | error e => exact mk (p := e) (by unfold parse; rw [if_neg c0, if_neg c1, if_neg c2, hm]; dsimp only; rw [if_neg c3, if_neg c4, hb]) (by omega) (by have := bdy_le hT (by omega) hb; omega) hm'
              | ok q =>
                obtain ⟨c, j⟩ := q
                by_cases c5 : j < n
                · exact mk (p := j) (by unfold parse; rw [if_neg c0, if_neg c1, if_neg c2, hm]; dsimp only; rw [if_neg c3, if_neg c4, hb]; dsimp only; rw [if_pos c5]) (by omega) (by omega) hm'
                · left
                  unfold parse
                  rw [if_neg c0, if_neg c1, if_neg c2, hm]
                  dsimp only
                  rw [if_neg c3, if_neg c4, hb]
                  dsimp only
                  rw [if_neg c5]
end

/-- A list of bytes, as a text. -/
def ofL (L : List UInt8) (i : Nat) : Int := match L[i]? with | some x => (x.toNat : Int) | none => -1
theorem ofL_txt (L : List UInt8) : Txt (ofL L) L.length := by
  refine ⟨fun i hi => ?_, fun i hi => ?_⟩
  · unfold ofL
    rw [List.getElem?_eq_none hi]
  · unfold ofL
    rw [List.getElem?_eq_getElem hi]
    have := L[i].toNat_lt
    dsimp only
    omega
theorem ofL_at {L M : List UInt8} : At (ofL (L ++ M)) 0 L := fun j x hj => by
  unfold ofL
  rw [Nat.zero_add, List.getElem?_append_left (List.getElem?_eq_some_iff.1 hj).1, hj]
theorem at_eq {B : Nat → Int} {L M : List UInt8} (h : At B 0 L) (k : At B 0 M) (hl : L.length = M.length) : L = M := by
  refine List.ext_getElem? fun i => ?_
  by_cases hi : i < L.length
  · have h1 := h i _ (List.getElem?_eq_getElem hi)
    have h2 := k i _ (List.getElem?_eq_getElem (hl ▸ hi))
    rw [List.getElem?_eq_getElem hi, List.getElem?_eq_getElem (hl ▸ hi)]
    congr 1
    exact UInt8.toNat_inj.1 (by omega)
  · rw [List.getElem?_eq_none (by omega), List.getElem?_eq_none (by omega)]

theorem parse_text {c : Cert} (hg : good c) (hl : (textB c).length ≤ 33554432) : parse (ofL (textB c)) (textB c).length = (c, 0, 0) := by
  have h : At (ofL (textB c)) 0 (textB c) := by
    have := ofL_at (L := textB c) (M := [])
    rwa [List.append_nil] at this
  rw [parse_at hg h (Nat.le_refl _) hl, if_neg (by omega)]
/-- One text is one certificate's. -/
theorem text_inj {c d : Cert} (hc : good c) (hd : good d) (hl : (textB c).length ≤ 33554432) (h : textB c = textB d) : c = d := by
  have h1 := parse_text hc hl
  have h2 := parse_text hd (by rw [← h]; exact hl)
  rw [← h, h1] at h2
  exact congrArg Prod.fst h2
/-- Of a text that is cut short nothing is read. -/
theorem parse_cut {c : Cert} (hg : good c) (hl : (textB c).length ≤ 33554432) {k : Nat} (hk : k < (textB c).length) {B : Nat → Int} (hT : Txt B k) (hB : ∀ i, i < k → B i = ofL (textB c) i) : (parse B k).2.2 = 170 ∧ 0 ≤ (parse B k).2.1 ∧ (parse B k).2.1 ≤ k := by
  rcases parse_fault hT with h | ⟨-, h1, h2, h3⟩
  · exfalso
    obtain ⟨d, p, e, hp⟩ : ∃ d p e, parse B k = (d, p, e) := ⟨_, _, _, rfl⟩
    rw [hp] at h
    obtain rfl : e = 0 := h
    obtain ⟨g1, g2, g3, g4, -⟩ := parse_is hT hp
    have hat : At (ofL (textB c)) 0 (textB d) := fun j x hj => by
      have hjl := (List.getElem?_eq_some_iff.1 hj).1
      rw [Nat.zero_add, ← hB j (by omega)]
      have := g2 j x hj
      rwa [Nat.zero_add] at this
    have h1 := parse_at g1 hat (n := (textB c).length) (by omega) hl
    rw [parse_text hg hl, if_pos (by omega)] at h1
    have := congrArg (fun x : Cert × Int × Int => x.2.2) h1
    dsimp only at this
    omega
  · rcases h3 with ⟨h3, -⟩ | h3
    · exact ⟨h3, h1, h2⟩
    · exfalso
      unfold parse at h3
      rw [if_neg (by omega)] at h3
      revert h3
      repeat' split
      all_goals (intro h3; revert h3; first | (dsimp only; omega) | skip)
end Ce
end Go.Proofs.YtodlejemkihjnaaDoor
