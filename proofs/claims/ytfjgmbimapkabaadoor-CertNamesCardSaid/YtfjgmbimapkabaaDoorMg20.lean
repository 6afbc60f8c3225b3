import Derived.Test.YtfjgmbimapkabaaDoorMg19
import Derived.Lib.AppendIntMem
/-
  The table of the powers of ten; what Line answers: the numbers' numerals, a blank between each two, a line's end behind the last.
-/
namespace Go.Proofs.YtfjgmbimapkabaaDoor
open Go.RowKit

/-- The table of the powers of ten reads as its initialiser lays it. -/
def Tab (w : World) : Prop := Lib.TabIs Tryd.prog w "internal/strconv.uint64pow10" .u64 Lib.pow10Tab

theorem Tab.below {w w' : World} (h : Tab w) (hb : Below w.heap.size w w') : Tab w' := Lib.tabBelow_of_tabIs h w' hb

/-- The first k numbers as text, blanks between. -/
def lineTo (z : Nat → Int) : Nat → List UInt8
  | 0 => []
  | k + 1 => (if 0 < k then lineTo z k ++ [32] else lineTo z k) ++ Lib.itoa (z k)

theorem lineTo_length (z : Nat → Int) (n : Nat) (hz : ∀ i, i < n → -9223372036854775808 ≤ z i ∧ z i ≤ 9223372036854775807) : ∀ k, k ≤ n → (lineTo z k).length ≤ 22 * k
  | 0, _ => by simp [lineTo]
  | k + 1, hk => by
    have ih := lineTo_length z n hz k (by omega)
    have := Lib.itoa_length_le (z k) (hz k (by omega)).1 (hz k (by omega)).2
    simp only [lineTo]
    by_cases h : 0 < k
    · rw [if_pos h]; simp; omega
    · rw [if_neg h]; simp; omega

/-- The numbers z 0 .. z (n - 1) lie at ao. -/
def HasInts (w : World) (ao : Option Addr) (n : Nat) (z : Nat → Int) : Prop :=
  ∀ i, i < n → (-9223372036854775808 ≤ z i ∧ z i ≤ 9223372036854775807) ∧ ∃ tb to, ao = some ⟨tb, to, none⟩ ∧ w.cell? ⟨tb, to + i, none⟩ = some (.int .i64 (z i))

theorem HasInts.later {w w' : World} {ao : Option Addr} {n : Nat} {z : Nat → Int} (h : HasInts w ao n z) (hg : Below w.heap.size w w') : HasInts w' ao n z := by
  intro i hi
  obtain ⟨hb, tb, to, e, hc⟩ := h i hi
  exact ⟨hb, tb, to, e, (hg.cell (p := ⟨tb, to + i, none⟩) (block_lt_of_cell hc)).trans hc⟩

theorem Tryd.infoByte : (Tryd.prog.info? 5).map (fun i => (i.zero, i.size, i.bytes)) = some (some (.int .u8 0), 1, 1) := by kernel_rfl

theorem new_one (W : World) (v : Value) (e : TypeId) : ∀ j u, [v][j]? = some u → (W.alloc (.cells #[v] e)).cell? ((⟨W.heap.size, 0, none⟩ : Addr).add j) = some u := by
  intro j u' hj
  match j, hj with
  | 0, hj => simp at hj; subst hj; simp [Addr.add]

set_option maxRecDepth 100000 in
set_option maxHeartbeats 4000000 in
theorem numline_any (ao : Option Addr) (n cap : Nat) (z : Nat → Int) (w : World) (hz : HasInts w ao n z) (hn : n ≤ 100000000) (ht : Tab w) :
    Calls Tryd.prog 41 #[.slice ao n cap] w fun e w' => e = .returned (.string ⟨(lineTo z n ++ [10]).toArray⟩) ∧ Below w.heap.size w w' := by
  obtain ⟨i0, hi, hz0, hz1, hz2⟩ := info_parts Tryd.infoByte
  have hT := Lib.tabBelow_of_tabIs ht
  have HL := Nu.hid (lineTo_length z n (fun i hi => (hz i hi).1))
  have HZ := Nu.hid hz
  have HT := Nu.hid hT
  clear hz ht hT
  go_enter Tryd.func41, Tryd.ntmps41
  go_wp2
  go_loopw [3, 8] (fun v c wr => ∃ k : Nat, k ≤ n ∧ c = .int .i64 k ∧ wr.ownsRow w.heap.size 5 1 v (lineTo z k).length (Lib.byteCells (lineTo z k)) ∧ Below w.heap.size w wr) (fun _ c _ => n - (intOf c).toNat)
  case atStart => exact ⟨0, Nat.zero_le _, rfl, World.ownsRow_nil _ _ _ _, Below.refl _ _⟩
  case round =>
    obtain ⟨k, hk, rfl, hown, hb⟩ := hrel
    have hll := HL.out k hk
    have hBw := hb.size
    by_cases hlt : k < n
    · have hlti : (k : Int) < (n : Int) := by omega
      obtain ⟨⟨b0, b1⟩, tb, to, rfl, cq⟩ := (HZ.out.later hb) k hlt
      have HS := Nu.hid (show lineTo z (k + 1) = (if 0 < k then lineTo z k ++ [32] else lineTo z k) ++ Lib.itoa (z k) from rfl)
      generalize lineTo z k = L at *
      have HC := Nu.hid cq
      by_cases h0 : 0 < k
      · have h0i : (0 : Int) < (k : Int) := by omega
        go_wp2_with (at_builtin; refine wpList_append_own _ rfl _ _ 31 rfl w.heap.size 5 i0 (.int .u8 0) 1 1 Tryd.underlying31 hi hz0 hz1 hz2 rfl (by decide) _ _ _ rfl (hown.alloc _) ⟨wr.heap.size, 0, none⟩ 1 1 [.int .u8 32] rfl rfl (new_one _ _ _) (by intro u' hu'; simp at hu'; subst hu'; rfl) (by unfold maxLen; omega) (by omega) (by simp; omega) ?_; refine Hid.out ?_)
        refine Nu.hid ?_
        intro v1 w1 hown1 hg1 _
        have hb1 : Below w.heap.size w w1 := (hb.alloc hBw _).grown hg1 (by simp; omega) (fun q hq => (hown.lt q hq).1)
        go_wp2_with (go_at_call 46; refine (Tryd.strconv_AppendInt w.heap.size (L.length + 1) (z k) b0 b1 v1 _ w1 hown1 hb1.size (by omega) (HT.out.on hb1)).mono ?_; rintro e w2 ⟨v2, rfl, hown2, hb2, -⟩; refine Hid.out ?_)
        refine Nu.hid ?_
        have hb02 := hb1.trans hb2
        clear hown1 hg1 hb1 hb2 cq
        go_wp2
        go_roundw
        case rel =>
          refine ⟨k + 1, by omega, by go_num, ?_, hb02⟩
          have e1 : (L ++ [32] ++ Lib.itoa (z k)).length = L.length + 1 + (Lib.itoa (z k)).length := by simp; omega
          have e2 : Lib.byteCells (L ++ [32] ++ Lib.itoa (z k)) = Lib.byteCells L ++ [.int .u8 32] ++ Lib.byteCells (Lib.itoa (z k)) := by simp [Lib.byteCells]
          rw [HS.out, if_pos h0, e1, e2]
          exact hown2
        case measure => simp [intOf]; omega
      · have h0i : ¬ ((0 : Int) < (k : Int)) := by omega
        go_wp2_with (go_at_call 46; refine (Tryd.strconv_AppendInt w.heap.size L.length (z k) b0 b1 _ _ wr hown hBw (by omega) (HT.out.on hb)).mono ?_; rintro e w2 ⟨v2, rfl, hown2, hb2, -⟩; refine Hid.out ?_)
        refine Nu.hid ?_
        have hb02 := hb.trans hb2
        clear hb2 cq
        go_wp2
        go_roundw
        case rel =>
          refine ⟨k + 1, by omega, by go_num, ?_, hb02⟩
          rw [HS.out, if_neg h0]
          simpa [Lib.byteCells] using hown2
        case measure => simp [intOf]; omega
    · have hd : ¬ ((k : Int) < (n : Int)) := by omega
      have hkn : k = n := by omega
      subst hkn
      obtain ⟨L, hL⟩ : ∃ L, L = lineTo z k := ⟨_, rfl⟩
      rw [← hL] at hown hll
      have HLL := Nu.hid hL
      clear hL
      go_wp2_with (at_builtin; refine wpList_append_own _ rfl _ _ 31 rfl w.heap.size 5 i0 (.int .u8 0) 1 1 Tryd.underlying31 hi hz0 hz1 hz2 rfl (by decide) _ _ _ rfl (hown.alloc _) ⟨wr.heap.size, 0, none⟩ 1 1 [.int .u8 10] rfl rfl (new_one _ _ _) (by intro u' hu'; simp at hu'; subst hu'; rfl) (by unfold maxLen; omega) (by omega) (by simp; omega) ?_; refine Hid.out ?_)
      refine Nu.hid ?_
      intro v1 w1 hown1 hg1 _
      have hb1 : Below w.heap.size w w1 := (hb.alloc hBw _).grown hg1 (by simp; omega) (fun q hq => (hown.lt q hq).1)
      have eL : Lib.byteCells L ++ [Value.int .u8 10] = Lib.byteCells (L ++ [10]) := by simp [Lib.byteCells]
      rw [eL] at hown1
      rcases hown1.2 with ⟨-, h0⟩ | ⟨gb, c1, cur, rfl, -⟩
      · omega
      · have hcv := run_convert_bytes_back (P := Tryd.prog) w1 31 9 5 ⟨gb, 0, none⟩ c1 (L ++ [10]) Tryd.underlying31 Tryd.underlying5 Tryd.underlying9 (fun j hj => hown1.cells (g := gb) rfl j _ (by rw [Lib.byteCells, List.getElem?_map, List.getElem?_eq_getElem hj]; rfl))
        have eln : (L ++ [(10 : UInt8)]).length = L.length + 1 := by simp
        rw [eln] at hcv
        clear eln
        have HOW := Nu.hid hown1
        clear hown1 hg1
        go_wp2
        go_ret
        rw [← HLL.out]
        exact ⟨rfl, hb1⟩

end Go.Proofs.YtfjgmbimapkabaaDoor
/-
  The program's writer: a line, the head.
-/
namespace Go.Proofs.YtfjgmbimapkabaaDoor
open Go.RowKit

namespace Ce
theorem jn_snoc (x : Int) : ∀ m : List Int, jn (m ++ [x]) = if m = [] then dg x else jn m ++ 32 :: dg x
  | [] => rfl
  | y :: r => by
    rw [if_neg (by simp), List.cons_append, jn_jt, jn_jt]
    simp [jt]
theorem lineTo_jn {l : List Int} {z : Nat → Int} (hz : ∀ i x, l[i]? = some x → z i = x) (h0 : ∀ x ∈ l, 0 ≤ x) : ∀ k, k ≤ l.length → lineTo z k = jn (l.take k)
  | 0, _ => rfl
  | k + 1, hk => by
    have ih := lineTo_jn hz h0 k (by omega)
    have hx : l[k]? = some l[k] := List.getElem?_eq_getElem (by omega)
    have ht : l.take (k + 1) = l.take k ++ [l[k]] := by rw [List.take_add_one, hx]; rfl
    rw [ht, jn_snoc]
    show (if 0 < k then lineTo z k ++ [32] else lineTo z k) ++ Lib.itoa (z k) = _
    rw [hz k _ hx, Nu.itoa_small (h0 _ (List.mem_of_getElem? hx)), ih]
    by_cases hk0 : k = 0
    · subst hk0
      rw [if_neg (by omega), if_pos (by simp)]
      rfl
    · have hne : l.take k ≠ [] := fun e => by
        have := congrArg List.length e
        rw [List.length_take, List.length_nil] at this
        omega
      rw [if_pos (by omega), if_neg hne]
      simp [dg]
theorem jt_len (r : List Int) : 2 * r.length ≤ (jt r).length := by
  induction r with
  | nil => simp [jt]
  | cons x r ih =>
    have := dg_some x
    have e : jt (x :: r) = 32 :: dg x ++ jt r := rfl
    rw [e]
    simp
    omega
theorem line_lo (l : List Int) : 2 * l.length ≤ (lineB l).length := by
  unfold lineB
  cases l with
  | nil => simp
  | cons x r =>
    have := jt_len r
    have := dg_some x
    rw [jn_jt]
    simp
    omega
theorem jt_hi (r : List Int) (h : ∀ x ∈ r, okN x) : (jt r).length ≤ 10 * r.length := by
  induction r with
  | nil => simp [jt]
  | cons x r ih =>
    have := dg_short (h x (by simp))
    have := ih (fun y hy => h y (by simp [hy]))
    have e : jt (x :: r) = 32 :: dg x ++ jt r := rfl
    rw [e]
    simp
    omega
theorem line_hi (l : List Int) (h : ∀ x ∈ l, okN x) : (lineB l).length ≤ 10 * l.length + 1 := by
  unfold lineB
  cases l with
  | nil => simp [jn]
  | cons x r =>
    have := jt_hi r (fun y hy => h y (by simp [hy]))
    have := dg_short (h x (by simp))
    rw [jn_jt]
    simp
    omega
end Ce

/-- nums.Line of such numbers. -/
theorem pline17_any {ao : Option Addr} {cap : Nat} {l : List Int} {w : World} (ha : IntsAt w ao l) (hok : ∀ x ∈ l, Ce.okN x) (hl : l.length ≤ 100000000) (ht : Tab w) :
    Calls Tryd.prog 41 #[.slice ao l.length cap] w fun e w' => e = .returned (.string ⟨(Ce.lineB l).toArray⟩) ∧ Below w.heap.size w w' := by
  have hz : ∀ i x, l[i]? = some x → (fun i => l.getD i 0) i = x := fun i x hx => by simp [hx]
  have hI : HasInts w ao l.length (fun i => l.getD i 0) := fun i hi => by
    have hx : l[i]? = some l[i] := List.getElem?_eq_getElem hi
    obtain ⟨b, o, e, hc⟩ := ha i _ hx
    have := hok _ (List.mem_of_getElem? hx)
    have h0 := this.1
    have h9 := this.2
    rw [hz i _ hx]
    exact ⟨⟨by omega, by omega⟩, b, o, e, hc⟩
  have h := numline_any ao l.length cap _ w hI hl ht
  rw [Ce.lineTo_jn hz (fun x hx => (hok x hx).1) l.length (Nat.le_refl _), List.take_length] at h
  exact h
end Go.Proofs.YtfjgmbimapkabaaDoor
/-
  The program's writer: a line, the head.
-/
namespace Go.Proofs.YtfjgmbimapkabaaDoor
open Go.RowKit

theorem IsWrt.setLong {w : World} {B b : Nat} {L : List UInt8} {t : Bool} (h : IsWrt w B b L t) : IsWrt (w.setCell ⟨b, 2, none⟩ (.bool true)) B b L true := h.imp (·.setLong) (·.setLong)
theorem IsWrt.base {w : World} {B b : Nat} {L : List UInt8} {t : Bool} (h : IsWrt w B b L t) : B ≤ b ∧ b < w.heap.size := by
  obtain ⟨p, h⟩ := h.some
  exact ⟨h.1, h.lt⟩
set_option maxHeartbeats 2000000 in
set_option maxRecDepth 100000 in
theorem wline17_long {w : World} {B b : Nat} {L : List UInt8} {t : Bool} (h : IsWrt w B b L t) {ao : Option Addr} {m c : Nat} (hm : m ≤ 4611686018427387) (hlong : t = true ∨ 33554432 < L.length + 2 * m) (hL : L.length ≤ 70368744177664) :
    Calls Tryd.prog 31 #[.pointer (some ⟨b, 0, none⟩), .slice ao m c] w fun e w' => e = .returned (.tuple #[]) ∧ IsWrt w' B b L true ∧ Below B w w' := by
  obtain ⟨p, h1⟩ := h.some
  obtain ⟨vo, vc, c0, c1, c2, fz, hsh⟩ := h1.cells
  have hbb := h.base
  have HW := Nu.hid h
  have HF := Nu.hid h.setLong
  clear h1 hsh h
  obtain ⟨K, hK⟩ : ∃ K, L.length = K := ⟨_, rfl⟩
  have HLEN : Hid (∀ _ : Nat, Calls Tryd.prog 32 #[.pointer (some ⟨b, 0, none⟩)] w fun e w' => e = .returned (.int .i64 (K : Int)) ∧ w' = w) := fun _ => by rw [← hK]; exact wlen17_any HW.out
  rw [hK] at c1 hlong hL
  have hB : Below B w (w.setCell ⟨b, 2, none⟩ (.bool true)) := (Below.refl B w).setCell (p := ⟨b, 2, none⟩) hbb.1 _
  cases t with
  | true =>
    clear hlong
    go_enter Tryd.func31, Tryd.ntmps31
    go_wp2
    refine bodyPost_ret (v := .tuple #[]) (by simp [results, Tryd.results31]) rfl ?_
    exact ⟨rfl, HF.out, hB⟩
  | false =>
    have hl2 : (33554432 : Int) < (K : Int) + 2 * (m : Int) := by
      rcases hlong with h | h
      · cases h
      · omega
    clear hlong
    go_enter Tryd.func31, Tryd.ntmps31
    go_wp2_with (go_at_call 32; refine (HLEN.out 0).mono ?_; rintro e w' ⟨rfl, rfl⟩)
    refine bodyPost_ret (v := .tuple #[]) (by simp [results, Tryd.results31]) rfl ?_
    exact ⟨rfl, HF.out, hB⟩

set_option maxHeartbeats 2000000 in
set_option maxRecDepth 100000 in
theorem wline17_more {w : World} {B b : Nat} {L : List UInt8} (h : IsWrt w B b L false) (hB : B ≤ w.heap.size) {ao : Option Addr} {c : Nat} {l : List Int} (ha : IntsAt w ao l) (hok : ∀ x ∈ l, Ce.okN x) (ht : Tab w) (hl : L.length + 2 * l.length ≤ 33554432) :
    Calls Tryd.prog 31 #[.pointer (some ⟨b, 0, none⟩), .slice ao l.length c] w fun e w' => e = .returned (.tuple #[]) ∧ IsWrt w' B b (L ++ Ce.lineB l) false ∧ Below B w w' := by
  obtain ⟨p, h1⟩ := h.some
  obtain ⟨vo, vc, c0, c1, c2, fz, hsh⟩ := h1.cells
  have hbb := h.base
  have HW := Nu.hid h
  have hhi := Ce.line_hi l hok
  have HLINE : Hid (∀ V, Below w.heap.size w V → Calls Tryd.prog 41 #[.slice ao l.length c] V fun e w' => e = .returned (.string ⟨(Ce.lineB l).toArray⟩) ∧ Below V.heap.size V w') := fun V hV => pline17_any (ha.later hV) hok (by omega) (Lib.tabBelow_of_tabIs ht V hV)
  have HWR : Hid (∀ V, Below w.heap.size w V → Calls Tryd.prog 40 #[.pointer (some ⟨b, 0, none⟩), .string ⟨(Ce.lineB l).toArray⟩] V fun e w' => (∃ v, e = .returned v) ∧ IsWrt w' B b (L ++ Ce.lineB l) false ∧ Below B V w') := fun V hV => wwrite17_any (HW.out.later hV) (Nat.le_trans hB hV.size) (by omega)
  have hbr : Below w.heap.size w w.drew := (Below.refl _ _).drew
  obtain ⟨S, hS⟩ : ∃ S, Ce.lineB l = S := ⟨_, rfl⟩
  obtain ⟨m, hm⟩ : ∃ m, l.length = m := ⟨_, rfl⟩
  obtain ⟨K, hK⟩ : ∃ K, L.length = K := ⟨_, rfl⟩
  have HLEN : Hid (∀ _ : Nat, Calls Tryd.prog 32 #[.pointer (some ⟨b, 0, none⟩)] w fun e w' => e = .returned (.int .i64 (K : Int)) ∧ w' = w) := fun _ => by rw [← hK]; exact wlen17_any HW.out
  rw [hS, hm] at HLINE
  rw [hS] at HWR ⊢
  rw [hm] at hl ⊢
  rw [hK] at c1 hl
  have hl2 : ¬ ((33554432 : Int) < (K : Int) + 2 * (m : Int)) := by omega
  clear h1 hsh h hhi hm hK hS ha hok ht
  go_enter Tryd.func31, Tryd.ntmps31
  go_wp2_with (go_at_call 32; refine (HLEN.out 0).mono ?_; rintro e w' ⟨rfl, hw'⟩; obtain rfl := hw'.symm; clear hw')
  go_region_held3 (fun V => Below B w V)
    (first | assumption | exact hbr.mono hB)
    (first
      | (go_at_call 41; with_reducible refine (HLINE.out _ (by first | assumption | exact hbr)).mono ?_; rintro e w3 ⟨rfl, hb3⟩; have hbz : Below w.heap.size w w3 := hbr.trans (hb3.mono hbr.size); have hbB : Below B w w3 := hbz.mono hB)
      | (go_at_call 40; with_reducible refine (HWR.out _ (by assumption)).mono ?_; rintro e w4 ⟨⟨v4, rfl⟩, hw4, hb4⟩; have hbF : Below B w w4 := Below.trans (by assumption) hb4))
  go_wp2
  go_end0
  exact ⟨rfl, hw4, hbF⟩

set_option maxHeartbeats 2000000 in
set_option maxRecDepth 100000 in
theorem whead17_any {w : World} {B b : Nat} (h : IsWrt w B b [] false) (hB : B ≤ w.heap.size) {S : List UInt8} (hS : S.length ≤ 2) {k : Int} (hk : Ce.okN k) (ht : ∀ W, Below B w W → Tab W) :
    Calls Tryd.prog 30 #[.pointer (some ⟨b, 0, none⟩), .string ⟨S.toArray⟩, .int .i64 k] w fun e w' => e = .returned (.tuple #[]) ∧ IsWrt w' B b (S ++ Ce.lineB [k]) false ∧ Below B w w' := by
  have hbb := h.base
  have HWR := Nu.hid (wwrite17_any h hB (S := S) (by simp; omega))
  have HT := Nu.hid ht
  clear h ht
  go_enter Tryd.func30, Tryd.ntmps30
  go_wp2_with (go_at_call 40; refine HWR.out.mono ?_; rintro e w1 ⟨⟨v1, rfl⟩, hw1, hb1⟩; refine Hid.out ?_)
  refine Nu.hid ?_
  rw [List.nil_append] at hw1
  have hB1 : B ≤ w1.heap.size := Nat.le_trans hB hb1.size
  have ha1 : Below w1.heap.size w1 (w1.alloc (.cells #[.int .i64 k] 3)) := (Below.refl _ _).alloc (Nat.le_refl _) _
  have hb2 := hb1.trans (ha1.mono hB1)
  have hI : IntsAt (w1.alloc (.cells #[.int .i64 k] 3)) (some ⟨w1.heap.size, 0, none⟩) [k] := IntsBlk.at (l := [k]) (heap_alloc_new w1 _)
  have HL := Nu.hid (wline17_more (c := 1) (hw1.later ha1) (by simp; omega) hI (fun x hx => by rw [List.mem_singleton.1 hx]; exact hk) (HT.out _ hb2) (by simp; omega))
  have HB2 := Nu.hid hb2
  clear HWR hw1 hb1 hb2 hI
  go_wp2_with (go_at_call 31; refine HL.out.mono ?_; rintro e w3 ⟨rfl, hw3, hb3⟩)
  go_end0
  exact ⟨rfl, hw3, HB2.out.trans hb3⟩
end Go.Proofs.YtfjgmbimapkabaaDoor
/-
  The program's proof: has the form room for it?
-/
namespace Go.Proofs.YtfjgmbimapkabaaDoor
open Go.RowKit

set_option maxRecDepth 100000 in
set_option maxHeartbeats 4000000 in
theorem pfitsL17_any {w : World} {ao : Option Addr} {c : Nat} {ls : List (List Int)} (h : Ce.ListsAt w ao ls) (hs : ls.length ≤ 4611686018427387904) (hl : ∀ l ∈ ls, l.length ≤ 4611686018427387904) :
    Calls Tryd.prog 88 #[.slice ao ls.length c] w fun e w' => Ce.Says e (Ce.okLs ls) ∧ Below w.heap.size w w' := by
  obtain ⟨n, hn⟩ : ∃ n, ls.length = n := ⟨_, rfl⟩
  rw [hn] at hs ⊢
  have HS := Nu.hid h
  have HL := Nu.hid hl
  have HN := Nu.hid hn
  clear h hl hn
  by_cases hc : 1048576 < n
  · have hci : (1048576 : Int) < (n : Int) := by omega
    go_enter Tryd.func88, Tryd.ntmps88
    go_wp2
    go_ret
    exact ⟨Ce.Says.no fun h => by have := h.2; have := HN.out; omega, Below.refl _ _⟩
  · have hci : ¬ ((1048576 : Int) < (n : Int)) := by omega
    go_enter Tryd.func88, Tryd.ntmps88
    go_wp2
    go_loopw [12] (fun iv wr => ∃ k : Nat, k ≤ n ∧ iv = .int .i64 (k : Int) ∧ (∀ i l, i < k → ls[i]? = some l → Ce.okL l) ∧ Below w.heap.size w wr) (fun iv _ => n - (intOf iv).toNat)
    case atStart => exact ⟨0, Nat.zero_le _, rfl, fun i l h => by omega, Below.refl _ _⟩
    case round =>
      obtain ⟨k, hk, rfl, hok, hbw⟩ := hrel
      have HOK := Nu.hid hok
      have HBW := Nu.hid hbw
      clear hok
      by_cases hlt : k < n
      · have hlti : (k : Int) < (n : Int) := by omega
        obtain ⟨l, hl⟩ : ∃ l, ls[k]? = some l := ⟨_, List.getElem?_eq_getElem (by have := HN.out; omega)⟩
        have hll := HL.out l (List.mem_of_getElem? hl)
        obtain ⟨b, o, xa, xc, rfl, c0, hia⟩ := (HS.out.later hbw) k l hl
        obtain ⟨m, hm⟩ : ∃ m, l.length = m := ⟨_, rfl⟩
        have HLK := Nu.hid hl
        have HM := Nu.hid hm
        have HIA := Nu.hid hia
        rw [hm] at hll c0
        have k0 : (0 : Int) ≤ (k : Int) := by omega
        clear hl hm hia hbw
        go_wp2
        go_loopw [18] (fun jv wx => ∃ j : Nat, j ≤ m ∧ jv = .int .i64 (j : Int) ∧ (∀ i x, i < j → l[i]? = some x → Ce.okN x ∧ l.headD 0 ≤ x) ∧ wx = wr) (fun jv _ => m - (intOf jv).toNat)
        case atStart => exact ⟨0, Nat.zero_le _, rfl, fun i x h => by omega, rfl⟩
        case round =>
          obtain ⟨j, hj, rfl, hokj, rfl⟩ := hrel
          have HOKJ := Nu.hid hokj
          have j0 : (0 : Int) ≤ (j : Int) := by omega
          clear hokj
          by_cases hjm : j < m
          · have hjmi : (j : Int) < (m : Int) := by omega
            have hm0 : (0 : Int) < (m : Int) := by omega
            obtain ⟨x, hx⟩ : ∃ x, l[j]? = some x := ⟨_, List.getElem?_eq_getElem (by have := HM.out; omega)⟩
            obtain ⟨y, hy⟩ : ∃ y, l[0]? = some y := ⟨_, List.getElem?_eq_getElem (by have := HM.out; omega)⟩
            have hy0 : l.headD 0 = y := by
              cases l with
              | nil => cases hy
              | cons a r => cases hy; rfl
            obtain ⟨xb, xo, rfl, d0⟩ := HIA.out j x hx
            obtain ⟨xb', xo', e', d1⟩ := HIA.out 0 y hy
            cases e'
            rw [Nat.add_zero] at d1
            have HX := Nu.hid hx
            have HY0 := Nu.hid hy0
            clear hx hy hy0
            by_cases hxy : x < y
            · have HNO : Hid (¬ Ce.okL l) := fun h => by
                have := (h x (List.mem_of_getElem? HX.out)).2
                have := HY0.out
                omega
              go_wp2
              go_ret
              exact ⟨Ce.Says.no fun h => HNO.out (h.1 l (List.mem_of_getElem? HLK.out)), HBW.out⟩
            · by_cases hn1 : 0 ≤ x ∧ x ≤ 999999999
              · have HNX : Hid (Ce.okN x) := hn1
                have HD : Hid (∀ W, Calls Tryd.prog 89 #[.int .i64 x] W fun e w' => e = .returned (.bool true) ∧ w' = W) := fun W => by have := pdigits17 x W; rwa [decide_eq_true hn1] at this
                clear hn1
                go_wp2_with (go_at_call 89; refine (HD.out _).mono ?_; rintro e w' ⟨rfl, hw'⟩; obtain rfl := hw'.symm; clear hw')
                go_roundw
                case rel =>
                  refine ⟨j + 1, by omega, by go_num, fun i z hi hz => ?_, trivial⟩
                  by_cases hij : i = j
                  · subst hij
                    rw [HX.out] at hz
                    cases hz
                    exact ⟨HNX.out, by have := HY0.out; omega⟩
                  · exact HOKJ.out i z (by omega) hz
                case measure => simp [intOf]; omega
              · have HNO : Hid (¬ Ce.okL l) := fun h => hn1 (h x (List.mem_of_getElem? HX.out)).1
                have HD : Hid (∀ W, Calls Tryd.prog 89 #[.int .i64 x] W fun e w' => e = .returned (.bool false) ∧ w' = W) := fun W => by have := pdigits17 x W; rwa [decide_eq_false hn1] at this
                clear hn1
                go_wp2_with (go_at_call 89; refine (HD.out _).mono ?_; rintro e w' ⟨rfl, hw'⟩; obtain rfl := hw'.symm; clear hw')
                go_ret
                exact ⟨Ce.Says.no fun h => HNO.out (h.1 l (List.mem_of_getElem? HLK.out)), HBW.out⟩
          · have hjmi : ¬ ((j : Int) < (m : Int)) := by omega
            go_wp2
            go_roundw
            case rel =>
              refine ⟨k + 1, by omega, by go_num, fun i z hi hz => ?_, HBW.out⟩
              by_cases hik : i = k
              · subst hik
                rw [HLK.out] at hz
                cases hz
                intro x hx
                obtain ⟨u, hu⟩ := List.getElem?_of_mem hx
                exact HOKJ.out u x (by have := HM.out; have := (List.getElem?_eq_some_iff.1 hu).1; omega) hu
              · exact HOK.out i z (by omega) hz
            case measure => simp [intOf]; omega
      · have hlti : ¬ ((k : Int) < (n : Int)) := by omega
        obtain rfl : k = n := by omega
        go_wp2
        go_ret
        refine ⟨Ce.Says.yes ⟨fun l hl => ?_, by have := HN.out; omega⟩, HBW.out⟩
        obtain ⟨i, hi⟩ := List.getElem?_of_mem hl
        exact HOK.out i l (by have := HN.out; have := (List.getElem?_eq_some_iff.1 hi).1; omega) hi
end Go.Proofs.YtfjgmbimapkabaaDoor
