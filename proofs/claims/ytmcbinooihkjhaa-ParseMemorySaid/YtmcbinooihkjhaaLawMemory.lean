/-
  Proved: for every list of bytes the law ParseMemory answers true, and the bytes read afterwards as before. No condition.
-/
import Derived.Test.YtmcbinooihkjhaaPaFive
import Derived.Test.YtmcbinooihkjhaaPaOut
import Derived.Test.YtmcbinooihkjhaaPlain6
import Derived.Deep.QuietTactic
import Derived.BigQuiet
namespace Go.Proofs.Ytmcbinooihkjhaa
open Go.ChangeShapes Go.WideShapes Go.ChangeAt Go.RowKit

theorem below_grown0 {w w' : World} (h : w.grownBy w' none) : Below w.heap.size w w' := (Below.refl _ _).grown h (Nat.le_refl _) (fun k hk => by cases hk)

theorem cell_three_new (w : World) (x y z : Value) (t : TypeId) : ∀ j u, [x, y, z][j]? = some u → (w.alloc (.cells #[x, y, z] t)).cell? ((⟨w.heap.size, 0, none⟩ : Addr).add j) = some u := by
  intro j u hj
  rw [addr0]
  match j, hj with
  | 0, hj => simpa using hj
  | 1, hj => simpa using hj
  | 2, hj => simpa using hj
  | j + 3, hj => simp at hj

theorem outs_of (r : Except (Int × Int) Pa.St) : ∃ n x ps, Outs r n x ps := by
  cases r with
  | error x => exact ⟨0, x, [], .inl ⟨rfl, rfl, rfl⟩⟩
  | ok s => exact ⟨s.n, (0, 0), s.pairs, .inr ⟨s, rfl, rfl, rfl, rfl⟩⟩

theorem outs_inj {r : Except (Int × Int) Pa.St} {n n' : Int} {x x' : Int × Int} {ps ps' : List (Int × Int)} (h : Outs r n x ps) (h' : Outs r n' x' ps') : n = n' ∧ x = x' ∧ ps = ps' := by
  rcases h with ⟨e, rfl, rfl⟩ | ⟨s, e, rfl, rfl, rfl⟩ <;> rcases h' with ⟨e', rfl, rfl⟩ | ⟨s', e', rfl, rfl, rfl⟩ <;> rw [e] at e' <;> cases e' <;> exact ⟨rfl, rfl, rfl⟩

theorem Try.infoSl : (Try.prog.info? 29).map (fun i => (i.zero, i.size, i.bytes)) = some (some (.slice none 0 0), 1, 24) := by kernel_rfl

theorem conv_text {W : World} {ao : Option Addr} {n c : Nat} {g : Nat → Int} (h : HasText W ao n g) (hc : ao = none → n = 0) :
    (convert 22 9 (.slice ao n c)).run Try.prog W = .ok (.string ⟨(Nu.bytesAt g 0 n).toArray⟩) W := by
  have hl := Nu.bytesAt_length g 0 n
  cases ao with
  | none =>
    have := hc rfl
    subst this
    rw [run_convert_bytes_string W 22 9 5 none 0 c Try.underlying22 Try.underlying5 Try.underlying9]
    simp [Conv.bytesToString, Nu.bytesAt]
    rfl
  | some a =>
    have := run_convert_bytes_back (P := Try.prog) W 22 9 5 a c (Nu.bytesAt g 0 n) Try.underlying22 Try.underlying5 Try.underlying9 (fun j hj => by
      obtain ⟨⟨b0, b1⟩, tb, to, e, hcj⟩ := h j (by omega)
      cases e
      have e2 : ((⟨tb, to, none⟩ : Addr).add j) = ⟨tb, to + j, none⟩ := by
        by_cases h0 : j = 0 <;> simp [Addr.add, h0]
      rw [e2, hcj, Nu.bytesAt_get g 0 n j hj, Nat.zero_add]
      congr 2
      simp
      omega)
    rw [hl] at this
    exact this

/-- What is written into the k-th list. -/
def marked (n k : Nat) : List (Int × Int) := (List.range n).map fun (i : Nat) => (-(k : Int), (i : Int))

theorem Nine.congr {B : Nat} {w : World} {ls : List Value} {P Q : Nat → List (Int × Int)} (h : Nine B w ls P) (e : ∀ k, Q k = P k) : Nine B w ls Q := ⟨fun k v hk => by rw [e k]; exact h.own k v hk, h.apart⟩

theorem Nine.congr' {B : Nat} {w : World} {ls : List Value} {P Q : Nat → List (Int × Int)} (h : Nine B w ls P) (e : ∀ k, k < ls.length → Q k = P k) : Nine B w ls Q := ⟨fun k v hk => by
  rw [e k (by rcases Nat.lt_or_ge k ls.length with hl | hl; exact hl; rw [List.getElem?_eq_none hl] at hk; cases hk)]
  exact h.own k v hk, h.apart⟩

theorem marked_step {ps : List (Int × Int)} {i k : Nat} (hi : i < ps.length) : (marked ps.length k).take (i + 1) ++ ps.drop (i + 1) = ((marked ps.length k).take i ++ ps.drop i).set i (-(k : Int), (i : Int)) := by
  have hm : (marked ps.length k).length = ps.length := by simp [marked]
  rw [List.set_append_right _ _ (by simp [hm]; omega), List.length_take, hm, Nat.min_eq_left (by omega), Nat.sub_self, List.drop_eq_getElem_cons hi, List.set_cons_zero, List.take_succ_eq_append_getElem (by omega), List.append_assoc]
  simp [marked]

namespace lawMemory

set_option maxRecDepth 100000 in
set_option maxHeartbeats 4000000 in
theorem walk (a0 : Option Addr) (len0 cap0 : Nat) (z0 : List Int) (w : World) (w0 : IsRow .u8 1 w a0 len0 cap0 z0) :
    Calls Try.prog 3 #[.slice a0 len0 cap0] w fun e w' => e = .returned (.bool true) ∧ Below w.heap.size w w' := by
  obtain ⟨i0, hi, hz0, hz1, hz2⟩ := info_parts Try.infoU8
  obtain ⟨s0, si, sz0, sz1, sz2⟩ := info_parts Try.infoSl
  have hlen : len0 ≤ 140737488351232 := by simpa using w0.small
  have htk := w0.take
  have htx := w0.text
  have hnil : a0 = none → len0 = 0 := by
    rcases w0 with ⟨_, rfl, _⟩ | ⟨x, rfl, _⟩
    · exact fun _ => rfl
    · intro h; cases h
  have HNIL := Nu.hid hnil
  have HROW := Nu.hid w0
  have HTX := Nu.hid htx
  have HTK := Nu.hid htk
  clear w0 htx htk hnil
  go_enter Try.func3, Try.ntmps3
  go_wp2_with (go_at_call 4; refine (fixed_any _).mono ?_; refine Hid.out ?_)
  refine Nu.hid ?_
  rintro e w1 ⟨rfl, hb1⟩
  have HROW1 := Nu.hid (HROW.out.later hb1)
  have HB1 := Nu.hid hb1
  clear hb1
  have p0 : IntKind.i64.wrap ((len0 : Int) + 3) = (len0 : Int) + 3 := by simp [IntKind.wrap, IntKind.bits, IntKind.signed]; omega
  go_wp2_with (refine wpList_make_own _ rfl _ _ 22 rfl w1.heap.size 5 i0 (.int .u8 0) 1 Try.underlying22 hi hz0 hz1 _ _ _ (len0 + 3) rfl rfl (by rfl) (by rw [hz2]; omega) (by unfold maxLen; omega) (Nat.le_refl _) ?_; intro w2 hown2 hg2; refine Hid.out ?_)
  refine Nu.hid ?_
  have HROW2 := Nu.hid (HROW1.out.later (below_grown0 hg2))
  have HB2 := Nu.hid (HB1.out.trans ((below_grown0 hg2).mono HB1.out.size))
  have hs2 := hg2.size
  go_wp2_with (at_builtin; refine wpList_grow rfl _ _ 22 rfl 5 .u8 i0 1 Try.underlying22 hi hz0 hz1 hz2 w2 w1.heap.size 0 w1.heap.size (len0 + 3) [] hown2 hs2 a0 len0 cap0 z0 rfl rfl HROW2.out (by unfold maxLen; omega) (by omega) ?_; intro g3 c3 w3 hown3 hgb3 hlt3 hlc3 hb3; rw [Nat.zero_add, List.nil_append] at hown3; rw [Nat.zero_add] at hlc3; rw [Nat.zero_add]; refine Hid.out ?_)
  refine Nu.hid ?_
  have HB3 := Nu.hid (HB2.out.trans (hb3.mono HB1.out.size))
  clear hown2 hg2 hb3
  go_wp2_with (at_builtin; refine wpList_append_own _ rfl _ _ 22 rfl w1.heap.size 5 i0 (.int .u8 0) 1 1 Try.underlying22 hi hz0 hz1 hz2 rfl (by decide) _ _ _ rfl (World.ownsRow.alloc hown3 _) ⟨w3.heap.size, 0, none⟩ 3 3 [.int .u8 91, .int .u8 92, .int .u8 93] rfl rfl (cell_three_new _ _ _ _ _) (by intro u' hu'; simp at hu'; rcases hu' with rfl | rfl | rfl <;> rfl) (by unfold maxLen; omega) (by omega) (by simp; omega) ?_; intro v4 w4 hown4 hg4 _; refine Hid.out ?_)
  refine Nu.hid ?_
  have hle4 : ∀ q, (Value.slice (some ⟨g3, 0, none⟩) len0 c3).ownBlock = some q → w.heap.size ≤ q := fun q hq => by
    have e : g3 = q := by simpa [Value.ownBlock] using hq
    have := HB1.out.size
    omega
  have HB4 := Nu.hid ((HB3.out.alloc HB3.out.size _).grown hg4 (by have := HB3.out.size; simp; omega) hle4)
  clear hg4 hown3 hle4
  rcases hown4.2 with ⟨-, h0⟩ | ⟨g4, c4, cur4, rfl, hgb4, hh4, hlc4, -⟩
  · omega
  have hg4l := lt_of_block hh4
  have HOWN4 := Nu.hid hown4
  have hT4 : HasText w4 (some ⟨g4, 0, none⟩) len0 fun i => z0.getD i 0 := fun i hi' => by
    have hl : i < z0.length := by have := HTK.out; simp at this; omega
    refine ⟨(HTX.out i hi').1, g4, 0, rfl, ?_⟩
    rw [Nat.zero_add]
    have hc := World.ownsRow.cells hown4 (g := g4) rfl i (.int .u8 (z0.getD i 0)) (by
      rw [List.getElem?_append_left (by rw [List.length_map, HTK.out]; exact hi'), List.getElem?_map, List.getElem?_take, if_pos hi', List.getElem?_eq_getElem hl]
      simp [List.getD_eq_getElem?_getD, List.getElem?_eq_getElem hl])
    rw [addr0] at hc
    exact hc
  have HT4 := Nu.hid hT4
  clear hown4 hh4 hT4
  obtain ⟨n, x, ps, hout⟩ := outs_of (Pa.raw (fun i => z0.getD i 0) len0)
  have HOUT := Nu.hid hout
  clear hout
  go_wp2_with (go_at_call 5; refine (refraw_any a0 len0 cap0 _ _ (HTX.out.later HB4.out) (by unfold maxLen; omega)).mono ?_; refine Hid.out ?_)
  refine Nu.hid ?_
  rintro e w5 hpost
  obtain ⟨hb5, U, V, rfl, hu, hv⟩ := hpost.outs HOUT.out
  have HB5 := Nu.hid (HB4.out.trans (hb5.mono HB4.out.size))
  have H45 := Nu.hid hb5
  have hs5 := hb5.size
  obtain ⟨ua, uc, rfl, hux⟩ := hu.at
  obtain ⟨wa, wc, rfl, hwx⟩ := hv.at
  have UA5 : Hid (IntsAt w5 (.slice ua (ps.map Prod.fst).length uc) (ps.map Prod.fst)) := ⟨ua, uc, rfl, hux⟩
  have VA5 : Hid (IntsAt w5 (.slice wa (ps.map Prod.snd).length wc) (ps.map Prod.snd)) := ⟨wa, wc, rfl, hwx⟩
  have HU5 := Nu.hid hu
  have HV5 := Nu.hid hv
  rw [List.length_map] at UA5 VA5 HU5 HV5
  rw [List.length_map, List.length_map]
  have hfew := HOUT.out.few
  clear hpost hb5 hu hv hux hwx
  unfold toldVal
  go_wp2_with fail
  generalize hW : w5.alloc (.cells #[.int .i64 n, .slice ua ps.length uc, .slice wa ps.length wc, .int .i64 x.1, .int .i64 x.2] 26) = W
  have hb5W : Below w5.heap.size w5 W := by rw [← hW]; exact (Below.refl _ _).alloc (Nat.le_refl _) _
  have H4W := Nu.hid (H45.out.trans (hb5W.mono hs5))
  have hs4W : w4.heap.size ≤ W.heap.size := H4W.out.size
  have HBW := Nu.hid (HB4.out.trans (H4W.out.mono HB4.out.size))
  have b3 : W.heap[w5.heap.size]? = some (.cells #[.int .i64 n, .slice ua ps.length uc, .slice wa ps.length wc, .int .i64 x.1, .int .i64 x.2] 26 (0, 0)) := by rw [← hW]; exact heap_alloc_new w5 _
  obtain ⟨c30, c31, c32, c33, c34, _⟩ := five_cells b3
  have qD : w5.heap.size < W.heap.size := lt_of_block b3
  have HUW := Nu.hid (HU5.out.below hb5W (Nat.le_refl _))
  have HVW := Nu.hid (HV5.out.below hb5W (Nat.le_refl _))
  have UAW := Nu.hid (UA5.out.below hb5W (Nat.le_refl _))
  have VAW := Nu.hid (VA5.out.below hb5W (Nat.le_refl _))
  clear hW hb5W b3
  have i1 : (0 : Int) ≤ (len0 : Int) := by omega
  have i2 : (len0 : Int) ≤ (c4 : Int) := by omega
  go_loopw [6, 7] (fun va c wr => ∃ (k : Nat) (ls : List Value), k ≤ 9 ∧ c = .int .i64 k ∧ ls.length = k ∧ Below W.heap.size W wr ∧ Nine W.heap.size wr ls (fun _ => ps) ∧ wr.ownsRow W.heap.size 29 1 va k ls) (fun _ c _ => 9 - (intOf c).toNat)
  case atStart => exact ⟨0, [], by omega, rfl, rfl, Below.refl _ _, Nine.nil _ _ _, World.ownsRow_nil _ _ _ _⟩
  case round =>
    obtain ⟨k, ls, hk, rfl, hlk, hbel, hnine, hall⟩ := hrel
    by_cases hlt : k < 9
    · have hlti : (k : Int) < 9 := by omega
      have hTr : HasText wr (some ⟨g4, 0, none⟩) len0 fun i => z0.getD i 0 := HT4.out.later (H4W.out.trans (hbel.mono hs4W))
      have HTR := Nu.hid hTr
      have HBEL := Nu.hid hbel
      have HNINE := Nu.hid hnine
      have HALL := Nu.hid hall
      clear hTr hbel hnine hall
      go_wp2_with (go_at_call 6; refine (raw_any _ len0 c4 _ _ HTR.out (by intro x hx; cases hx; exact Nat.lt_of_lt_of_le hg4l (Nat.le_trans hs4W HBEL.out.size)) (by unfold maxLen; omega) (by omega)).mono ?_; refine Hid.out ?_)
      refine Nu.hid ?_
      rintro e w6 hpost
      obtain ⟨hb6, n', v, x', ps', rfl, hout, hop⟩ := hpost.outs
      obtain ⟨rfl, rfl, rfl⟩ := outs_inj HOUT.out hout
      obtain ⟨va6, vc6, rfl, hvx⟩ := hop.at
      have HOP := Nu.hid hop
      have HB6 := Nu.hid hb6
      have hs6 := hb6.size
      have hsr : W.heap.size ≤ wr.heap.size := HBEL.out.size
      clear hpost hb6 hout hop hvx
      unfold rawVal rejVal
      have hb6' : Below w6.heap.size w6 ((w6.alloc (.cells #[.int .i64 n, .slice va6 ps.length vc6] 31)).alloc (.cells #[.int .i64 x.1, .int .i64 x.2] 34)) := ((Below.refl _ _).alloc (Nat.le_refl _) _).alloc (by simp) _
      have HB6' := Nu.hid hb6'
      have PA6 : Hid (PairsAt _ (.slice va6 ps.length vc6) ps) := HOP.out.at.below hb6' (Nat.le_refl _)
      have HW6 := Nu.hid ((HBEL.out.trans (HB6.out.mono hsr)).trans (hb6'.mono (Nat.le_trans hsr hs6)))
      clear hb6'
      have UA6 := Nu.hid (UAW.out.below HW6.out (Nat.le_refl _))
      have VA6 := Nu.hid (VAW.out.below HW6.out (Nat.le_refl _))
      have q0 := (HW6.out.cell (p := ⟨w5.heap.size, 0, none⟩) qD).trans c30
      have q1 := (HW6.out.cell (p := ⟨w5.heap.size, 1, none⟩) qD).trans c31
      have q2 := (HW6.out.cell (p := ⟨w5.heap.size, 2, none⟩) qD).trans c32
      have q3 := (HW6.out.cell (p := ⟨w5.heap.size, 3, none⟩) qD).trans c33
      have q4 := (HW6.out.cell (p := ⟨w5.heap.size, 4, none⟩) qD).trans c34
      go_wp2_with (go_at_call 7; refine (psame_any n (.slice va6 ps.length vc6) (.slice ua ps.length uc) (.slice wa ps.length wc) x ps _ PA6.out UA6.out VA6.out (by omega)).mono ?_; refine Hid.out ?_)
      refine Nu.hid ?_
      rintro e w7 ⟨rfl, hb7⟩
      have hs7 := hb7.size
      simp only [World.size_alloc] at hs7
      have r1 : w7.cell? ⟨w6.heap.size, 1, none⟩ = some (.slice va6 ps.length vc6) := by
        have k1 : ((w6.alloc (.cells #[.int .i64 n, .slice va6 ps.length vc6] 31)).alloc (.cells #[.int .i64 x.1, .int .i64 x.2] 34)).heap[w6.heap.size]? = some (.cells #[.int .i64 n, .slice va6 ps.length vc6] 31 (0, 0)) := by
          rw [Below.heap_alloc _ _ _ (by simp)]
          exact heap_alloc_new w6 _
        exact (two_cells ((hb7.block _ (by simp; omega)).trans k1)).2.1
      have HW7 := Nu.hid (HW6.out.trans (hb7.mono HW6.out.size))
      have H67 : Below w6.heap.size w6 w7 := HB6'.out.trans (hb7.mono HB6'.out.size)
      have HR7 := Nu.hid (HB6.out.trans (H67.mono hs6))
      have HN7 := Nu.hid ((HNINE.out.snoc HB6.out HOP.out hsr).below H67)
      have HA7 := Nu.hid (row_below HALL.out HR7.out)
      clear hb7 H67 q0 q1 q2 q3 q4
      go_wp2_with (at_builtin; refine wpList_append_own_at _ rfl _ _ 28 rfl W.heap.size 29 s0 (.slice none 0 0) 1 24 Try.underlying28 si sz0 sz1 sz2 rfl (by decide) _ _ _ rfl (World.ownsRow.alloc HA7.out _) ⟨w7.heap.size, 0, none⟩ 1 1 [.slice va6 ps.length vc6] rfl rfl (cell_one_new _ _ _) (by intro u' hu'; simp at hu'; subst hu'; rfl) (by unfold maxLen; omega) (by omega) (by simp; omega) ?_; intro va8 w8 hown8 hg8 _ _; refine Hid.out ?_)
      refine Nu.hid ?_
      go_wp2
      go_roundw
      case rel => exact ⟨k + 1, ls ++ [.slice va6 ps.length vc6], by omega, by go_num, by simp [hlk], (HW7.out.alloc (by omega) _).grown hg8 (by simp; omega) (fun q hq => (HA7.out.lt q hq).1), (HN7.out.alloc _).kept hg8 (fun j u hj => HN7.out.other HA7.out (by decide) j u hj), hown8⟩
      case measure => simp [intOf]; omega
    · obtain rfl : k = 9 := by omega
      rw [show (((9 : Nat) : Int)) = 9 from rfl]
      obtain ⟨W9, rfl⟩ : ∃ W9, W9 = wr := ⟨_, rfl⟩
      have hsr : W.heap.size ≤ W9.heap.size := hbel.size
      have hR4 : Below w4.heap.size w4 W9 := H4W.out.trans (hbel.mono hs4W)
      have hRow : W9.ownsRow w1.heap.size 5 1 (.slice (some ⟨g4, 0, none⟩) (len0 + 3) c4) (len0 + 3) _ := row_below HOWN4.out hR4
      have HROWR := Nu.hid hRow
      have HBEL := Nu.hid hbel
      have HNINE := Nu.hid hnine
      have HALL := Nu.hid hall
      have HTR := Nu.hid (HT4.out.later hR4)
      have HBR := Nu.hid (HBW.out.trans (hbel.mono HBW.out.size))
      have cv1 : ∀ nq, (convert 22 9 (.slice (some ⟨g4, 0, none⟩) len0 c4)).run Try.prog (W9.drewN nq) = .ok (.string ⟨(Nu.bytesAt (fun i => z0.getD i 0) 0 len0).toArray⟩) (W9.drewN nq) := fun nq => conv_text (W := W9.drewN nq) HTR.out (fun h => by cases h)
      have cv2 : ∀ nq, (convert 22 9 (.slice a0 len0 cap0)).run Try.prog (W9.drewN nq) = .ok (.string ⟨(Nu.bytesAt (fun i => z0.getD i 0) 0 len0).toArray⟩) (W9.drewN nq) := fun nq => conv_text (W := W9.drewN nq) (HTX.out.later (below_drewN HBR.out nq)) HNIL.out
      have tail : ∀ j u, [Value.int .u8 91, .int .u8 92, .int .u8 93][j]? = some u → W9.cell? ⟨g4, len0 + j, none⟩ = some u := fun j u h => by
        have := World.ownsRow.cells HROWR.out (g := g4) rfl (len0 + j) u (by rw [List.getElem?_append_right (by rw [List.length_map, HTK.out]; omega), List.length_map, HTK.out, Nat.add_sub_cancel_left]; exact h)
        rw [addr0] at this
        exact this
      have t0 : W9.cell? ⟨g4, len0, none⟩ = some (.int .u8 91) := tail 0 _ rfl
      have t1 : W9.cell? ⟨g4, len0 + 1, none⟩ = some (.int .u8 92) := tail 1 _ rfl
      have t2 : W9.cell? ⟨g4, len0 + 2, none⟩ = some (.int .u8 93) := tail 2 _ rfl
      clear hRow hbel hnine hall hR4 tail
      generalize Nu.bytesAt (fun i => z0.getD i 0) 0 len0 = L at cv1 cv2
      have i3 : (len0 : Int) < (len0 : Int) + 3 := by omega
      have i4 : (len0 : Int) + 1 < (len0 : Int) + 3 := by omega
      have i5 : (len0 : Int) + 2 < (len0 : Int) + 3 := by omega
      go_wp2_with fail
      go_quiet (fail)
      clear cv1 cv2 t0 t1 t2
      go_wp2
      go_loopw [91] (fun c wq => ∃ (j : Nat) (xs : List Value), j ≤ len0 + 3 ∧ c = .int .i64 j ∧ wq.ownsRow w1.heap.size 5 1 (.slice (some ⟨g4, 0, none⟩) (len0 + 3) c4) (len0 + 3) xs ∧ W9.grownBy wq (some g4)) (fun c _ => len0 + 3 - (intOf c).toNat)
      case atStart => exact ⟨0, _, by omega, rfl, HROWR.out, grownBy_drewN (World.grownBy.refl _ _) _⟩
      case round =>
        obtain ⟨j, xs, hj, rfl, hrow, hgr⟩ := hrel
        by_cases hlt : j < len0 + 3
        · have hlti : (j : Int) < (len0 : Int) + 3 := by omega
          have hj0 : (0 : Int) ≤ (j : Int) := by omega
          have hxl : xs.length = len0 + 3 := by simpa using hrow.1
          obtain ⟨u, hu⟩ : ∃ u, xs[j]? = some u := ⟨_, List.getElem?_eq_getElem (by omega)⟩
          have cj : wr.cell? ⟨g4, j, none⟩ = some u := by
            have := World.ownsRow.cells hrow (g := g4) rfl j u hu
            rw [addr0] at this
            exact this
          have fj := World.ownsRow.frozenAt hrow j
          have HR2 := Nu.hid (World.ownsRow.stored hrow j (.int .u8 120))
          have HG2 := Nu.hid hgr
          clear hrow hgr hu hxl
          go_wp2
          go_roundw
          case rel => exact ⟨j + 1, _, by omega, by go_num, HR2.out.1, grownBy_setCell HG2.out j _⟩
          case measure => simp [intOf]; omega
        · obtain rfl : j = len0 + 3 := by omega
          rw [show (((len0 + 3 : Nat)) : Int) = (len0 : Int) + 3 by omega]
          obtain ⟨X, rfl⟩ : ∃ X, X = wr := ⟨_, rfl⟩
          have hg4X : g4 ≠ w5.heap.size := by have := H45.out.size; omega
          have HNX := Nu.hid (HNINE.out.kept hgr (fun k v hk => HNINE.out.other HROWR.out (by decide) k v hk))
          have HAX := Nu.hid (HALL.out.kept hgr (types_apart HALL.out HROWR.out (by decide)))
          have hU9 := HUW.out.below HBEL.out (Nat.le_refl _)
          have hV9 := HVW.out.below HBEL.out (Nat.le_refl _)
          have far4 : ∀ (v : Value) (zs : List Int), OwnInts W9 w4.heap.size v zs → v.ownBlock = none ∨ v.ownBlock ≠ some g4 := fun v zs h => by
            cases hv : v.ownBlock with
            | none => exact .inl rfl
            | some g => exact .inr (fun e => by cases e; have := (World.ownsRow.lt h g4 hv).1; omega)
          have UAX : Hid (IntsAt X _ _) := OwnInts.at (World.ownsRow.kept hU9 hgr (far4 _ _ hU9))
          have VAX : Hid (IntsAt X _ _) := OwnInts.at (World.ownsRow.kept hV9 hgr (far4 _ _ hV9))
          have e9 : ∀ i v, W.cell? ⟨w5.heap.size, i, none⟩ = some v → X.cell? ⟨w5.heap.size, i, none⟩ = some v := fun i v h => hgr.cell ((HBEL.out.cell (p := ⟨w5.heap.size, i, none⟩) qD).trans h) (by simpa using hg4X.symm)
          have x0 := e9 _ _ c30
          have x1 := e9 _ _ c31
          have x2 := e9 _ _ c32
          have x3 := e9 _ _ c33
          have x4 := e9 _ _ c34
          have HBX := Nu.hid (HBR.out.grown hgr HBR.out.size (fun q hq => by cases hq; have := HB1.out.size; omega))
          clear hrow hgr hU9 hV9 far4 e9
          rcases HAX.out.2 with ⟨-, h0⟩ | ⟨ga, ca, curA, rfl, hgbA, hhA, hlcA, -⟩
          · omega
          have hgaX := lt_of_block hhA
          have HCA : Hid (∀ j v, ls[j]? = some v → X.cell? ⟨ga, j, none⟩ = some v) := fun j v h => by
            have := World.ownsRow.cells HAX.out (g := ga) rfl j v h
            rw [addr0] at this
            exact this
          clear hhA
          have hqX : w5.heap.size < X.heap.size := block_lt_of_cell x0
          go_wp2
          go_loopw [100] (fun c wq => ∃ j : Nat, j ≤ 9 ∧ c = .int .i64 j ∧ Below X.heap.size X wq) (fun c _ => 9 - (intOf c).toNat)
          case atStart => exact ⟨0, by omega, rfl, Below.refl _ _⟩
          case round =>
            obtain ⟨j, hj, rfl, hbX⟩ := hrel
            by_cases hlt : j < 9
            · have hlti : (j : Int) < 9 := by omega
              have hj0 : (0 : Int) ≤ (j : Int) := by omega
              obtain ⟨lv, hlv⟩ : ∃ lv, ls[j]? = some lv := ⟨_, List.getElem?_eq_getElem (by omega)⟩
              obtain ⟨la, lc, rfl, -⟩ := (HNX.out.own j lv hlv).at
              have cl := (hbX.cell (p := ⟨ga, j, none⟩) hgaX).trans (HCA.out j _ hlv)
              have PAr := Nu.hid ((HNX.out.own j _ hlv).at.below hbX (Nat.le_refl _))
              have UAr := Nu.hid (UAX.out.below hbX (Nat.le_refl _))
              have VAr := Nu.hid (VAX.out.below hbX (Nat.le_refl _))
              have y0 := (hbX.cell (p := ⟨w5.heap.size, 0, none⟩) hqX).trans x0
              have y1 := (hbX.cell (p := ⟨w5.heap.size, 1, none⟩) hqX).trans x1
              have y2 := (hbX.cell (p := ⟨w5.heap.size, 2, none⟩) hqX).trans x2
              have y3 := (hbX.cell (p := ⟨w5.heap.size, 3, none⟩) hqX).trans x3
              have y4 := (hbX.cell (p := ⟨w5.heap.size, 4, none⟩) hqX).trans x4
              have HBXr := Nu.hid hbX
              clear hbX hlv
              go_wp2_with (go_at_call 7; refine (psame_any n (.slice la ps.length lc) (.slice ua ps.length uc) (.slice wa ps.length wc) x ps _ PAr.out UAr.out VAr.out (by omega)).mono ?_; refine Hid.out ?_)
              refine Nu.hid ?_
              rintro e w7 ⟨rfl, hb7⟩
              have HB7 := Nu.hid (HBXr.out.trans (hb7.mono HBXr.out.size))
              clear hb7
              go_wp2
              go_roundw
              case rel => exact ⟨j + 1, by omega, by go_num, HB7.out⟩
              case measure => simp [intOf]; omega
            · obtain rfl : j = 9 := by omega
              rw [show (((9 : Nat) : Int)) = 9 from rfl]
              obtain ⟨Y, rfl⟩ : ∃ Y, Y = wr := ⟨_, rfl⟩
              have HNY := Nu.hid (HNX.out.below hbX)
              have HAY := Nu.hid (row_below HAX.out hbX)
              have HBY := Nu.hid (HBX.out.trans (hbX.mono HBX.out.size))
              have hgaY : ga < Y.heap.size := Nat.lt_of_lt_of_le hgaX hbX.size
              have HCY : Hid (∀ j v, ls[j]? = some v → Y.cell? ⟨ga, j, none⟩ = some v) := fun j v h => (hbX.cell (p := ⟨ga, j, none⟩) hgaX).trans (HCA.out j v h)
              clear hbX x0 x1 x2 x3 x4
              go_wp2
              go_loopw [119] (fun c wq => ∃ j : Nat, j ≤ 9 ∧ c = .int .i64 j ∧ wq.ownsRow W.heap.size 29 1 (.slice (some ⟨ga, 0, none⟩) 9 ca) 9 ls ∧ Below W.heap.size Y wq ∧ Nine W.heap.size wq ls (fun k => if k < j then marked ps.length k else ps)) (fun c _ => 9 - (intOf c).toNat)
              case atStart => exact ⟨0, by omega, rfl, HAY.out, Below.refl _ _, HNY.out.congr (fun k => by simp)⟩
              case round =>
                obtain ⟨j, hj, rfl, hall, hbY, hnine⟩ := hrel
                by_cases hlt : j < 9
                · have hlti : (j : Int) < 9 := by omega
                  have hj0 : (0 : Int) ≤ (j : Int) := by omega
                  obtain ⟨lv, hlv⟩ : ∃ lv, ls[j]? = some lv := ⟨_, List.getElem?_eq_getElem (by omega)⟩
                  have hown := hnine.own j lv hlv
                  simp only [Nat.lt_irrefl, if_false] at hown
                  obtain ⟨la, lc, rfl, -⟩ := hown.at
                  have cl : wr.cell? ⟨ga, j, none⟩ = some (.slice la ps.length lc) := by
                    have := World.ownsRow.cells hall (g := ga) rfl j _ hlv
                    rw [addr0] at this
                    exact this
                  obtain ⟨V, rfl⟩ : ∃ V, V = wr := ⟨_, rfl⟩
                  have HALL4 := Nu.hid hall
                  have HBY4 := Nu.hid hbY
                  have HN4 := Nu.hid hnine
                  have HLV := Nu.hid hlv
                  clear hall hbY hnine hlv hown
                  go_wp2
                  go_loopw [126] (fun c wq => ∃ i : Nat, i ≤ ps.length ∧ c = .int .i64 i ∧ wq.ownsRow W.heap.size 29 1 (.slice (some ⟨ga, 0, none⟩) 9 ca) 9 ls ∧ Below W.heap.size Y wq ∧ Nine W.heap.size wq ls (fun k => if k < j then marked ps.length k else if k = j then (marked ps.length j).take i ++ ps.drop i else ps)) (fun c _ => ps.length - (intOf c).toNat)
                  case atStart => exact ⟨0, by omega, rfl, HALL4.out, HBY4.out, HN4.out.congr (fun k => by by_cases h1 : k < j <;> by_cases h2 : k = j <;> simp [h1, h2])⟩
                  case round =>
                    obtain ⟨i, hi', rfl, hall, hbY, hnine⟩ := hrel
                    by_cases hlt2 : i < ps.length
                    · have hlti2 : (i : Int) < (ps.length : Int) := by omega
                      have hi0 : (0 : Int) ≤ (i : Int) := by omega
                      have hp0 : ps ≠ [] := fun e => by rw [e] at hlt2; simp at hlt2
                      have hown := hnine.own j _ HLV.out
                      simp only [Nat.lt_irrefl, if_false, if_true] at hown
                      have hml : ((marked ps.length j).take i ++ ps.drop i).length = ps.length := by simp [marked]; omega
                      obtain ⟨gl, hgl⟩ : ∃ gl, la = some ⟨gl, 0, none⟩ := by
                        rcases hown.2 with ⟨e, h0⟩ | ⟨gl, cap, cur, e, _⟩
                        · rw [hml] at h0; omega
                        · rw [hml] at e; cases e; exact ⟨gl, rfl⟩
                      subst hgl
                      obtain ⟨q, hq⟩ : ∃ q, ((marked ps.length j).take i ++ ps.drop i)[i]? = some q := ⟨_, List.getElem?_eq_getElem (by omega)⟩
                      obtain ⟨f0, f1⟩ := flatP_at _ _ _ hq
                      have d0 : wr.cell? ⟨gl, i * 2, none⟩ = some (.int .i64 q.1) := by
                        have := World.ownsRow.cells hown (g := gl) rfl _ _ f0
                        rw [addr0] at this
                        exact this
                      have d1 : wr.cell? ⟨gl, i * 2 + 1, none⟩ = some (.int .i64 q.2) := by
                        have := World.ownsRow.cells hown (g := gl) rfl _ _ f1
                        rw [addr0] at this
                        exact this
                      have hown' : wr.ownsRow W.heap.size 38 2 (.slice (some ⟨gl, 0, none⟩) ps.length lc) ps.length (flatP ((marked ps.length j).take i ++ ps.drop i)) := by
                        have h := hown
                        unfold OwnPairs at h
                        rw [hml] at h
                        exact h
                      have k0 := World.ownsRow.frozenAt hown' (i * 2)
                      have k1 := World.ownsRow.frozenAt hown' (i * 2 + 1)
                      have hglB := (World.ownsRow.lt hown' gl rfl).1
                      have HN6 := Nu.hid (hnine.store HLV.out i (-(j : Int), (i : Int)))
                      have HA6 : Hid (((wr.setCell ⟨gl, i * 2, none⟩ (.int .i64 (-(j : Int)))).setCell ⟨gl, i * 2 + 1, none⟩ (.int .i64 (i : Int))).ownsRow W.heap.size 29 1 (.slice (some ⟨ga, 0, none⟩) 9 ca) 9 ls) := by
                        have hne : (Value.slice (some ⟨ga, 0, none⟩) 9 ca).ownBlock ≠ some gl := by
                          rcases types_apart hall hown' (by decide) with e | e
                          · rw [e]; simp
                          · exact e
                        exact row_set (row_set hall ⟨gl, i * 2, none⟩ _ hne) ⟨gl, i * 2 + 1, none⟩ _ hne
                      have HB6 : Hid (Below W.heap.size Y ((wr.setCell ⟨gl, i * 2, none⟩ (.int .i64 (-(j : Int)))).setCell ⟨gl, i * 2 + 1, none⟩ (.int .i64 (i : Int)))) := (hbY.setCell (by exact hglB) _).setCell (by exact hglB) _
                      have wj : IntKind.i64.wrap (-(j : Int)) = -(j : Int) := by simp [IntKind.wrap, IntKind.bits, IntKind.signed]; omega
                      clear hall hbY hnine hown hown' f0 f1 hq hml
                      go_wp2
                      go_roundw
                      case rel =>
                        refine ⟨i + 1, by omega, by go_num, HA6.out, HB6.out, HN6.out.congr (fun k => ?_)⟩
                        by_cases h1 : k < j
                        · have h2 : k ≠ j := by omega
                          simp [h1, h2]
                        · by_cases h2 : k = j
                          · subst h2
                            simp only [Nat.lt_irrefl, if_false, if_true]
                            exact marked_step hlt2
                          · simp [h1, h2]
                      case measure => simp [intOf]; omega
                    · obtain rfl : i = ps.length := by omega
                      have HN6 := Nu.hid hnine
                      have HA6 := Nu.hid hall
                      have HB6 := Nu.hid hbY
                      clear hnine hall hbY
                      go_wp2
                      go_roundw
                      case rel =>
                        refine ⟨j + 1, by omega, by go_num, HA6.out, HB6.out, HN6.out.congr (fun k => ?_)⟩
                        by_cases h1 : k < j
                        · have h2 : k < j + 1 := by omega
                          simp [h1, h2]
                        · by_cases h2 : k = j
                          · subst h2
                            have hm : (marked ps.length k).length = ps.length := by simp [marked]
                            simp [List.take_of_length_le (Nat.le_of_eq hm)]
                          · have h3 : ¬ k < j + 1 := by omega
                            simp [h1, h2, h3]
                      case measure => simp [intOf]; omega
                · obtain rfl : j = 9 := by omega
                  rw [show (((9 : Nat) : Int)) = 9 from rfl]
                  obtain ⟨V, rfl⟩ : ∃ V, V = wr := ⟨_, rfl⟩
                  have HNV : Hid (Nine W.heap.size V ls fun k => marked ps.length k) := hnine.congr' (fun k hk => by rw [if_pos (by omega)])
                  have HAV := Nu.hid hall
                  have HBV := Nu.hid hbY
                  have hsV : W.heap.size ≤ V.heap.size := Nat.le_trans (Nat.le_of_lt (HAV.out.lt ga rfl).2 |> fun h => Nat.le_trans (HAV.out.lt ga rfl).1 h) (Nat.le_refl _)
                  clear hall hbY hnine
                  obtain ⟨M, hM⟩ : ∃ M, M = fun k => marked ps.length k := ⟨_, rfl⟩
                  rw [← hM] at HNV
                  have HML : Hid (∀ k, (M k).length = ps.length) := fun k => by rw [hM]; simp [marked]
                  have HM := Nu.hid hM
                  clear hM
                  obtain ⟨p0', pi, pz0, pz1, pz2⟩ := info_parts Try.infoPair
                  go_wp2
                  go_loopw [16, 140] (fun vg c wq => ∃ gs : List Value, gs.length ≤ 9 ∧ c = .int .i64 gs.length ∧ Five W.heap.size ga ca Y ls M wq vg gs ∧ W.heap.size ≤ wq.heap.size) (fun _ c _ => 9 - (intOf c).toNat)
                  case atStart => exact ⟨[], by simp, rfl, ⟨HAV.out, World.ownsRow_nil _ _ _ _, by simp [Value.ownBlock], HBV.out, HNV.out, Grown.nil _ _ _ _⟩, hsV⟩
                  case round =>
                    obtain ⟨gs, hgl, rfl, hfive, hsr⟩ := hrel
                    by_cases hlt : gs.length < 9
                    · have hlti : (gs.length : Int) < 9 := by omega
                      have hj0 : (0 : Int) ≤ (gs.length : Int) := by omega
                      obtain ⟨lv, hlv⟩ : ∃ lv, ls[gs.length]? = some lv := ⟨_, List.getElem?_eq_getElem (by omega)⟩
                      have hown := hfive.nine.own gs.length lv hlv
                      obtain ⟨la, lc, rfl, -⟩ := hown.at
                      rw [HML.out] at hlv
                      have cl : wr.cell? ⟨ga, gs.length, none⟩ = some (.slice la ps.length lc) := by
                        have := World.ownsRow.cells hfive.all (g := ga) rfl gs.length _ hlv
                        rw [addr0] at this
                        exact this
                      have hownl : wr.ownsRow W.heap.size 38 2 (.slice la ps.length lc) ps.length (flatP (M gs.length)) := by
                        have h := hown
                        unfold OwnPairs at h
                        rw [HML.out] at h
                        exact h
                      obtain ⟨Z, rfl⟩ : ∃ Z, Z = wr := ⟨_, rfl⟩
                      have HFIVE := Nu.hid hfive
                      have HLV := Nu.hid hlv
                      have HOWNL := Nu.hid hownl
                      clear hfive hlv hownl hown
                      go_wp2
                      go_loopw [19, 20] (fun v c wq => ∃ (t : Nat) (xs : List Value), t ≤ 32 ∧ c = .int .i64 t ∧ wq.ownsRow W.heap.size 38 2 v (ps.length + t) xs ∧ (∀ b, v.ownBlock = some b → some b = (Value.slice la ps.length lc).ownBlock ∨ Z.heap.size ≤ b) ∧ Five W.heap.size ga ca Y ls M wq u16 gs ∧ Z.heap.size ≤ wq.heap.size) (fun _ c _ => 32 - (intOf c).toNat)
                      case atStart => exact ⟨0, _, by omega, rfl, HOWNL.out, fun b hb => .inl hb.symm, HFIVE.out, Nat.le_refl _⟩
                      case round =>
                        obtain ⟨t, xs, ht, rfl, hrow, hfar, hfive, hsz⟩ := hrel
                        by_cases hlt3 : t < 32
                        · have hlti3 : (t : Int) < 32 := by omega
                          have HFAR := Nu.hid hfar
                          have HF5 := Nu.hid hfive
                          have HROW5 := Nu.hid hrow
                          clear hfar hfive hrow
                          go_wp2_with (at_builtin; refine wpList_append_keep _ rfl _ _ 29 rfl W.heap.size 38 p0' (.agg #[.int .i64 0, .int .i64 0]) 2 16 Try.underlying29 pi pz0 pz1 pz2 rfl (by decide) _ _ _ rfl (World.ownsRow.alloc HROW5.out _) ⟨wr.heap.size, 0, none⟩ 1 1 [.int .i64 7, .int .i64 7] rfl rfl (cell_two_n _ _ _ _) (by intro u' hu'; simp at hu'; subst hu'; rfl) (by unfold maxLen; omega) (by omega) (by simp; omega) ?_; intro v1 w1' hown1 hg1 hat1 hkeep1; refine Hid.out ?_)
                          refine Nu.hid ?_
                          have HF6 := Nu.hid (HF5.out.push _ (by omega) (World.ownsRow.alloc HROW5.out _) hg1 hkeep1 (fun k => by rw [HML.out]; omega) (Five.apart HFIVE.out HLV.out HFAR.out))
                          have hs1 := hg1.size
                          simp only [World.size_alloc] at hs1 hat1
                          have HFAR1 : Hid (∀ b, v1.ownBlock = some b → some b = (Value.slice la ps.length lc).ownBlock ∨ Z.heap.size ≤ b) := fun b hb => by
                            rcases hat1 with e | e
                            · exact HFAR.out b (e.symm.trans hb)
                            · rw [hb] at e
                              cases e
                              exact .inr (by omega)
                          have HROW6 := Nu.hid hown1
                          clear hg1 hkeep1 hat1 hown1
                          go_wp2
                          go_roundw
                          case rel => exact ⟨t + 1, _, by omega, by go_num, HROW6.out, HFAR1.out, HF6.out, by omega⟩
                          case measure => simp [intOf]; omega
                        · obtain rfl : t = 32 := by omega
                          rw [show (((32 : Nat) : Int)) = 32 from rfl]
                          have hownl5 : wr.ownsRow W.heap.size 38 2 (.slice la ps.length lc) ps.length (flatP (M gs.length)) := by
                            have h := hfive.nine.own gs.length _ HLV.out
                            unfold OwnPairs at h
                            rw [HML.out] at h
                            exact h
                          have HFIVE5 := Nu.hid hfive
                          have HOWNL5 := Nu.hid hownl5
                          clear hrow hfar hfive hownl5
                          go_wp2_with (at_builtin; refine wpList_append_keep _ rfl _ _ 29 rfl W.heap.size 38 p0' (.agg #[.int .i64 0, .int .i64 0]) 2 16 Try.underlying29 pi pz0 pz1 pz2 rfl (by decide) _ _ _ rfl (World.ownsRow.alloc HOWNL5.out _) ⟨wr.heap.size, 0, none⟩ 1 1 [.int .i64 gs.length, .int .i64 (-9)] rfl rfl (cell_two_n _ _ _ _) (by intro u' hu'; simp at hu'; rcases hu' with rfl | rfl <;> rfl) (by unfold maxLen; omega) (by omega) (by simp; omega) ?_; intro v1 w1' hown1 hg1 hat1 hkeep1; refine Hid.out ?_)
                          refine Nu.hid ?_
                          have HF6 := Nu.hid (HFIVE5.out.push _ (by omega) (World.ownsRow.alloc HOWNL5.out _) hg1 hkeep1 (fun k => by rw [HML.out]; omega) (Five.apart HFIVE5.out HLV.out (fun b hb => .inl hb.symm)))
                          have hs1 := hg1.size
                          simp only [World.size_alloc] at hs1 hat1
                          have HOP1 : Hid (OwnPairs w1' W.heap.size v1 (M gs.length ++ [((gs.length : Int), -9)])) := by
                            show w1'.ownsRow _ _ _ _ _ _
                            rw [flatP_snoc, List.length_append, HML.out]
                            exact hown1
                          have HOFF := Nu.hid (HFIVE5.out.off HLV.out HOP1.out (by simp) (Nat.le_succ _) hat1)
                          have e1 := HOP1.out.form
                          clear hg1 hkeep1 hat1 hown1
                          obtain ⟨va1, vc1, rfl, -⟩ := e1
                          have el : (M gs.length ++ [((gs.length : Int), -9)]).length = ps.length + 1 := by simp [HML.out]
                          rw [el] at HOP1 HOFF
                          rw [el]
                          clear el
                          go_wp2_with (at_builtin; refine wpList_append_own_at _ rfl _ _ 28 rfl W.heap.size 29 s0 (.slice none 0 0) 1 24 Try.underlying28 si sz0 sz1 sz2 rfl (by decide) _ _ _ rfl (World.ownsRow.alloc HF6.out.grown _) ⟨w1'.heap.size, 0, none⟩ 1 1 [.slice va1 _ vc1] rfl rfl (cell_one_new _ _ _) (by intro u' hu'; simp at hu'; subst hu'; rfl) (by unfold maxLen; omega) (by omega) (by simp; omega) ?_; intro vg8 w8 hown8 hg8 _ hat8; refine Hid.out ?_)
                          refine Nu.hid ?_
                          have HF8 := Nu.hid (HF6.out.snoc (by omega) HOP1.out HOFF.out _ hown8 hg8 hat8)
                          have hs8 := hg8.size
                          simp only [World.size_alloc] at hs8
                          clear hown8 hg8 hat8
                          go_wp2
                          go_roundw
                          case rel => exact ⟨gs ++ [.slice va1 (ps.length + 1) vc1], by rw [List.length_append]; exact hlt, by simp, HF8.out, by omega⟩
                          case measure => simp [intOf]; omega
                    · have h9 : gs.length = 9 := by omega
                      rcases hfive.grown.2 with ⟨-, h0⟩ | ⟨gg, cg, curG, rfl, hgbG, hhG, hlcG, -⟩
                      · omega
                      rw [h9, show (((9 : Nat) : Int)) = 9 from rfl]
                      obtain ⟨F, rfl⟩ : ∃ F, F = wr := ⟨_, rfl⟩
                      have hggF := lt_of_block hhG
                      have hgaF := (hfive.all.lt ga rfl).2
                      have HCG : Hid (∀ j v, gs[j]? = some v → F.cell? ⟨gg, j, none⟩ = some v) := fun j v h => by
                        have := World.ownsRow.cells hfive.grown (g := gg) rfl j v h
                        rw [addr0] at this
                        exact this
                      have HCF : Hid (∀ j v, ls[j]? = some v → F.cell? ⟨ga, j, none⟩ = some v) := fun j v h => by
                        have := World.ownsRow.cells hfive.all (g := ga) rfl j v h
                        rw [addr0] at this
                        exact this
                      have HF9 := Nu.hid hfive
                      have H9 := Nu.hid h9
                      have hbYF := Nu.hid (HBY.out.trans (hfive.bel.mono (Nat.le_trans HBW.out.size (Nat.le_refl _))))
                      clear hfive hhG h9
                      have eqP := eqPair
                      go_wp2
                      go_loopw [165] (fun c wq => ∃ j : Nat, j ≤ 9 ∧ c = .int .i64 j ∧ Below F.heap.size F wq) (fun c _ => 9 - (intOf c).toNat)
                      case atStart => exact ⟨0, by omega, rfl, Below.refl _ _⟩
                      case round =>
                        obtain ⟨j, hj, rfl, hbF⟩ := hrel
                        by_cases hlt6 : j < 9
                        · have hlti : (j : Int) < 9 := by omega
                          have hj0 : (0 : Int) ≤ (j : Int) := by omega
                          obtain ⟨lv, hlv⟩ : ∃ lv, ls[j]? = some lv := ⟨_, List.getElem?_eq_getElem (by omega)⟩
                          obtain ⟨gv, hgv⟩ : ∃ gv, gs[j]? = some gv := ⟨_, List.getElem?_eq_getElem (by have := H9.out; omega)⟩
                          obtain ⟨la, lc, rfl, -⟩ := (HF9.out.nine.own j lv hlv).at
                          have hgo := HF9.out.more.own j gv hgv
                          obtain ⟨xa, xc, rfl, -⟩ := hgo.at
                          have el : (M j ++ [((j : Int), -9)]).length = ps.length + 1 := by simp [HML.out]
                          rw [el] at hgv hgo
                          rw [HML.out] at hlv
                          have cl := (hbF.cell (p := ⟨ga, j, none⟩) hgaF).trans (HCF.out j _ hlv)
                          have cg' := (hbF.cell (p := ⟨gg, j, none⟩) hggF).trans (HCG.out j _ hgv)
                          have hPA := ((HF9.out.nine.own j _ hlv).at.below hbF (Nat.le_refl _))
                          have hGA := (hgo.at.below hbF (Nat.le_refl _))
                          obtain ⟨Z, rfl⟩ : ∃ Z, Z = wr := ⟨_, rfl⟩
                          have HPA := Nu.hid hPA
                          obtain ⟨xa', xc', e', hgx⟩ := hGA
                          rw [el] at e'
                          cases e'
                          obtain ⟨G, rfl, g0, g1⟩ := hgx ps.length ((j : Int), -9) (by rw [List.getElem?_append_right (by rw [HML.out]; exact Nat.le_refl _), HML.out, Nat.sub_self]; rfl)
                          have wj : IntKind.i64.wrap (-(j : Int)) = -(j : Int) := by simp [IntKind.wrap, IntKind.bits, IntKind.signed]; omega
                          have HBF := Nu.hid hbF
                          have HG0 := Nu.hid g0
                          have HG1 := Nu.hid g1
                          have HCG' := Nu.hid cg'
                          clear hbF hlv hgv hPA hgo hgx el g0 g1 cg'
                          go_wp2
                          go_loopw [172] (fun c wq => ∃ i : Nat, i ≤ ps.length ∧ c = .int .i64 i ∧ Below Z.heap.size Z wq) (fun c _ => ps.length - (intOf c).toNat)
                          case atStart => exact ⟨0, by omega, rfl, Below.refl _ _⟩
                          case round =>
                            obtain ⟨i, hi', rfl, hbZ⟩ := hrel
                            by_cases hlt7 : i < ps.length
                            · have hlti7 : (i : Int) < (ps.length : Int) := by omega
                              have hi0 : (0 : Int) ≤ (i : Int) := by omega
                              obtain ⟨pa, pc, e', hpx⟩ := HPA.out.below hbZ (Nat.le_refl _)
                              rw [HML.out] at e'
                              cases e'
                              obtain ⟨Q, rfl, q0, q1⟩ := hpx i (-(j : Int), (i : Int)) (by rw [HM.out]; simp [marked, hlt7])
                              have HBZ := Nu.hid hbZ
                              clear hbZ hpx
                              go_wp2
                              go_roundw
                              case rel => exact ⟨i + 1, by omega, by go_num, HBZ.out⟩
                              case measure => simp [intOf]; omega
                            · obtain rfl : i = ps.length := by omega
                              have z0' := (hbZ.cell (p := ⟨gg, j, none⟩) (block_lt_of_cell HCG'.out)).trans HCG'.out
                              have z1' := (hbZ.cell (p := ⟨G, ps.length * 2, none⟩) (block_lt_of_cell HG0.out)).trans HG0.out
                              have z2' := (hbZ.cell (p := ⟨G, ps.length * 2 + 1, none⟩) (block_lt_of_cell HG1.out)).trans HG1.out
                              have hi0 : (0 : Int) ≤ (ps.length : Int) := by omega
                              have hi1 : (ps.length : Int) < (ps.length : Int) + 1 := by omega
                              have HBZ := Nu.hid (HBF.out.trans (hbZ.mono HBF.out.size))
                              clear hbZ
                              go_wp2
                              go_roundw
                              case rel => exact ⟨j + 1, by omega, by go_num, HBZ.out⟩
                              case measure => simp [intOf]; omega
                        · obtain rfl : j = 9 := by omega
                          have HBF := Nu.hid (hbYF.out.trans (hbF.mono hbYF.out.size))
                          clear hbF
                          go_wp2
                          go_ret
                          exact ⟨rfl, HBF.out⟩

/-- What the walk gives, for every argument and every world. -/
theorem contract (H : Type) (enc : TypeId × Value → H) (W : World) (base : Nat) (args : Array Value) (ds gs : List (DataW H)) (before : List MemPlace)
    (hval : ∀ (j : Nat) t v, Try.f3.params[j]? = some t → args[j]? = some v → Value.okWide Try.prog W .any base t v)
    (hW : DataW.Whole enc Try.prog Try.f3.params.toList Rows.parseMemorySpec.vars false W args.toList ds gs before)
    (hsz : (DataW.weightsEach Try.prog (Try.f3.params.toList ++ (OpenSpec.ofChange Rows.parseMemorySpec).bare.plain.varTypes Try.prog) (ds ++ gs)).all (· ≤ reachBytes) = true)
    :
    Calls Try.prog 3 args W fun e W' => ∃ v, e = .returned v ∧ Rows.parseMemorySpec.post enc Try.prog Try.f3 false true false false W args v W' := by
  have hW' := hW
  obtain ⟨p, q, hA0, hV, rfl, hfz, hnd⟩ := hW
  have hA : DataW.TrodAll enc Try.prog W 0 (fun _ => true) true Try.f3.params.toList args.toList ds p := hA0
  rw [Try.params3] at hA hval hsz
  obtain ⟨v0, vs0, d0, ds0, p0, q0, hargs, rfl, rfl, h0, r0⟩ := trodAll_cons hA
  obtain ⟨rfl, rfl, rfl⟩ := trodAll_nil r0
  obtain rfl : args = #[v0] := by cases args; simp_all
  obtain ⟨rfl, rfl⟩ := trodVars_none hV
  obtain ⟨a0, len0, cap0, rfl⟩ := okWide_slice Try.underlying22 (hval 0 22 v0 rfl rfl)
  have k0 := h0
  have lt0 : ∀ x ∈ p0, x.block < W.heap.size := by obtain ⟨m, hm⟩ := k0; exact DataW.trod_lt m _ _ _ hm
  obtain ⟨z0, w0⟩ := IsRow.of_trod (j := 0) Try.underlying22 Try.underlying5 cellsU8 bytesU8 h0 hsz rfl rfl
  clear hA0
  refine (walk a0 len0 cap0 z0 W w0).mono fun e W' ⟨he, bel⟩ => ?_
  subst he
  exact ⟨_, rfl, _, _, _, [], _, [], hW', trodAll_mk1 (shut_bool Try.underlying4 _), (trodAll_cons_mk (Below.trod laidOut (by kernel_rfl) (of_decide_eq_true (by kernel_rfl)) k0 bel lt0) trodAll_mk0), rfl, bel.frame _, fun h => by cases h⟩

theorem laid_met (os : Os) : laidMet Try.prog Rows.parseMemoryRow.laid ((settled os).forCall (fun _ _ => 0) ⟨#[], #[.slice none 0 0], []⟩).memory :=
  laidMet_of_run' 100 (by kernel_rfl) (by kernel_rfl)
theorem reads (os : Os) {H : Type} (enc : TypeId × Value → H) : ∃ places, DataW.whole enc Try.prog ((settled os).forCall (fun _ _ => 0) ⟨#[], #[.slice none 0 0], []⟩).memory Try.f3.params.toList Rows.parseMemorySpec.vars false (#[.slice none 0 0] : Array Value).toList 8 = some ([.nil], [], places) :=
  ⟨[], by kernel_rfl⟩

set_option maxRecDepth 100000 in
theorem lifted (os : Os) (started : os.Started) (H : Type) (enc : TypeId × Value → H) (F : Stop.Interp) :
    ReturnsInHanded {} Try.checked os 3 .any ((OpenSpec.ofChange Rows.parseMemorySpec).preRow enc Try.prog Try.f3 Rows.parseMemoryRow.domain false Rows.parseMemoryRow.laid) (((OpenSpec.ofChange Rows.parseMemorySpec).at F).post enc Try.prog Try.f3 false true false false) := by
  obtain ⟨places, hx⟩ := reads os enc
  refine returnsInHanded_of_row (C := Try.checked) (s := (OpenSpec.ofChange Rows.parseMemorySpec)) own started (by kernel_rfl) Try.func3
    (witness_row_at (enc := enc) (C := Try.checked) false (settled os) #[.slice none 0 0] rfl (by kernel_rfl) (by kernel_rfl) (by kernel_rfl)
      (OpenSpec.preRow_of_cond 8 hx (by kernel_rfl) (fun k hk => by cases hk) (by kernel_rfl) (laid_met os))) ?_
  intro W base args ds gs before hval hW _ _ hsz _ _ _
  exact contract H enc W base args ds gs before hval hW hsz 

theorem said : Rows.ParseMemorySaid :=
  OpenClaim.holds_of_cond 3 Try.f3 rfl rfl rfl rfl rfl rfl rfl ⟨rfl, rfl, rfl, rfl, rfl⟩ rfl rfl rfl rfl rfl (by kernel_rfl) Try.func3 (by kernel_rfl)
    (of_decide_eq_true (by kernel_rfl)) (by unfold Func.isWrapper; first | (rw [if_pos (by decide +kernel)]; kernel_rfl) | (rw [if_neg (by decide +kernel)]; exact ⟨rfl, rfl⟩))
    (fun os started H enc _ F => by rw [OpenClaim.pre_eq_preRow]; exact lifted os started H enc F)

end lawMemory

theorem parseMemory_holds : Rows.ParseMemorySaid := lawMemory.said

#print axioms parseMemory_holds
end Go.Proofs.Ytmcbinooihkjhaa
