/-
  Proved: for every list of bytes the law NumsLies answers true, and the bytes read afterwards as before.
-/
import Derived.Test.YtcglpafbmekabaaDoorBase
import Derived.Test.YtcglpafbmekabaaDoorPlain6
import Derived.Deep.RegionHeld3
import Derived.Laws.IdiomStrings
namespace Go.Proofs.YtcglpafbmekabaaDoor
open Go.ChangeShapes Go.WideShapes Go.ChangeAt Go.RowKit

namespace lawLies

theorem Tryd.infoU8 : (Tryd.prog.info? 5).map (fun i => (i.zero, i.size, i.bytes)) = some (some (.int .u8 0), 1, 1) := by kernel_rfl

/-- The four cells of a token in block T, the j-th. -/
def At4 (w : World) (T j : Nat) (k a f m : Int) : Prop :=
  w.cell? ⟨T, j * 4, none⟩ = some (.int .i64 k) ∧ w.cell? ⟨T, j * 4 + 1, none⟩ = some (.int .i64 a) ∧ w.cell? ⟨T, j * 4 + 2, none⟩ = some (.int .i64 f) ∧ w.cell? ⟨T, j * 4 + 3, none⟩ = some (.int .i64 m)

theorem At4.later {w w' : World} {T j : Nat} {k a f m : Int} (h : At4 w T j k a f m) (hb : Below w.heap.size w w') : At4 w' T j k a f m := by
  obtain ⟨h0, h1, h2, h3⟩ := h
  exact ⟨(hb.cell (p := ⟨T, j * 4, none⟩) (block_lt_of_cell h0)).trans h0, (hb.cell (p := ⟨T, j * 4 + 1, none⟩) (block_lt_of_cell h1)).trans h1, (hb.cell (p := ⟨T, j * 4 + 2, none⟩) (block_lt_of_cell h2)).trans h2, (hb.cell (p := ⟨T, j * 4 + 3, none⟩) (block_lt_of_cell h3)).trans h3⟩

theorem at4_of {w : World} {T n c : Nat} {ts : List Nu.Tok} (h : TokSlice w (.slice (some ⟨T, 0, none⟩) n c) ts) {j : Nat} {t : Nu.Tok} (hj : ts[j]? = some t) : At4 w T j t.kind t.at' t.fin t.num := by
  rcases h with ⟨h, _⟩ | ⟨T', c', h, hc⟩
  · cases h
  · cases h
    exact hc j t hj

/-- 'string(b[q:r])' of a text. -/
theorem text_conv {W : World} {tb to n q r c : Nat} {g : Nat → Int} (h : HasText W (some ⟨tb, to, none⟩) n g) (hr : r ≤ n) (_hq : q ≤ r) :
    (convert 22 9 (.slice (some ⟨tb, to + q, none⟩) (r - q) c)).run Tryd.prog W = .ok (.string ⟨(Nu.bytesAt g q (r - q)).toArray⟩) W := by
  have hl := Nu.bytesAt_length g q (r - q)
  have := run_convert_bytes_back (P := Tryd.prog) W 22 9 5 ⟨tb, to + q, none⟩ c (Nu.bytesAt g q (r - q)) Tryd.underlying22 Tryd.underlying5 Tryd.underlying9 (fun j hj => by
    obtain ⟨⟨b0, b1⟩, tb', to', e, hc⟩ := h (q + j) (by omega)
    cases e
    have e2 : ((⟨tb, to + q, none⟩ : Addr).add j) = ⟨tb, to + (q + j), none⟩ := by
      by_cases h0 : j = 0
      · subst h0; simp [Addr.add]
      · simp [Addr.add, h0]; omega
    rw [e2, hc, Nu.bytesAt_get g q (r - q) j hj]
    congr 2
    simp
    omega)
  rw [hl] at this
  exact this

/-- What the reads of one token's last test lean on. -/
def Leans (N tb to n c q r : Nat) (g : Nat → Int) (tn : Int) (L : List UInt8) (W : World) : Prop :=
  W.cell? ⟨N, 0, none⟩ = some (.int .i64 1) ∧ W.cell? ⟨N, 1, none⟩ = some (.int .i64 q) ∧ W.cell? ⟨N, 2, none⟩ = some (.int .i64 r) ∧ W.cell? ⟨N, 3, none⟩ = some (.int .i64 tn) ∧
  HasText W (some ⟨tb, to, none⟩) n g ∧ Tab W ∧ (convert 22 9 (.slice (some ⟨tb, to + q, none⟩) (r - q) c)).run Tryd.prog W = .ok (.string ⟨L.toArray⟩) W

theorem leans_drew {N tb to n c q r : Nat} {g : Nat → Int} {tn : Int} {L : List UInt8} {W : World} (hL : L = Nu.bytesAt g q (r - q)) (hr : r ≤ n) (hq : q ≤ r) (h : Leans N tb to n c q r g tn L W) : Leans N tb to n c q r g tn L W.drew :=
  ⟨h.1, h.2.1, h.2.2.1, h.2.2.2.1, h.2.2.2.2.1, h.2.2.2.2.2.1, by subst hL; exact text_conv (W := W.drew) h.2.2.2.2.1 hr hq⟩

theorem leans_grown {N tb to n c q r : Nat} {g : Nat → Int} {tn : Int} {L : List UInt8} {W W' : World} (hL : L = Nu.bytesAt g q (r - q)) (hr : r ≤ n) (hq : q ≤ r) (hg : W.grownBy W' none) (h : Leans N tb to n c q r g tn L W) : Leans N tb to n c q r g tn L W' :=
  ⟨hg.cell h.1 (by simp), hg.cell h.2.1 (by simp), hg.cell h.2.2.1 (by simp), hg.cell h.2.2.2.1 (by simp), h.2.2.2.2.1.grown0 hg, h.2.2.2.2.2.1.below (Below_of_grown hg), by subst hL; exact text_conv (h.2.2.2.2.1.grown0 hg) hr hq⟩

set_option maxRecDepth 100000 in
set_option maxHeartbeats 16000000 in
theorem walk (a0 : Option Addr) (len0 cap0 : Nat) (z0 : List Int) (w : World) (w0 : IsRow .u8 1 w a0 len0 cap0 z0) (ht : Tab w) :
    Calls Tryd.prog 7 #[.slice a0 len0 cap0] w fun e w' => e = .returned (.bool true) ∧ Below w.heap.size w w' := by
  obtain ⟨i0, hi, hz0, hz1, hz2⟩ := info_parts Tryd.infoU8
  have hlen : len0 ≤ 140737488351232 := by simpa using w0.small
  have hcap0 : len0 ≤ cap0 := by
    rcases w0 with ⟨_, rfl, rfl, _⟩ | ⟨_, _, hl, _⟩
    · exact Nat.le_refl _
    · exact hl
  have HTK := Nu.hid w0.take
  have HTX := Nu.hid w0.text
  have HROW := Nu.hid w0
  have HTAB := Nu.hid ht
  clear w0 ht
  go_enter Tryd.func7, Tryd.ntmps7
  go_wp2_with (go_at_call 9; refine (awake_any _ HTAB.out).mono ?_; rintro e w1 ⟨rfl, hb1⟩; refine Hid.out ?_)
  refine Nu.hid ?_
  have HB1 := Nu.hid hb1
  clear hb1
  go_wp2_with (at_builtin; refine wpList_copy rfl _ _ 22 rfl 5 .u8 i0 1 Tryd.underlying22 hi hz0 hz1 hz2 (by decide) w1 a0 len0 cap0 z0 rfl rfl (HROW.out.later HB1.out) ?_; intro gb c w2 hown hgb hlt hlc hb2; refine Hid.out ?_)
  refine Nu.hid ?_
  have HT2 := Nu.hid (own_text HTK.out (fun i hi => (HTX.out i hi).1) hown)
  have HB2 := Nu.hid (HB1.out.trans (hb2.mono HB1.out.size))
  clear hown hb2
  obtain ⟨g, hg⟩ : ∃ g : Nat → Int, g = fun i => z0.getD i 0 := ⟨_, rfl⟩
  rw [← hg] at HT2 HTX
  clear hg
  go_wp2_with (go_at_call 10; refine (scan_any _ len0 c g _ HT2.out (by intro x hx; cases hx; exact hlt) (by unfold maxLen; omega) hlc).mono ?_; refine Hid.out ?_)
  refine Nu.hid ?_
  rintro e w3 ⟨hb3, hx⟩
  have HB3 := Nu.hid (HB2.out.trans (hb3.mono HB2.out.size))
  clear hb3
  rcases hx with ⟨hn, rfl⟩ | ⟨hn, x, hs, rfl⟩ | ⟨hn, ts, T, hs, rfl, hT, hrow⟩
  · go_wp2
    go_ret
    exact ⟨rfl, HB3.out⟩
  · obtain ⟨hcode, hxl⟩ := Nu.scan_code hs
    obtain ⟨xp, xc⟩ := x
    dsimp only at hcode hxl
    have jc : (xc != 0) = true := by rcases hcode with rfl | rfl <;> decide
    clear hcode hs
    dsimp only
    go_wp2
    go_ret
    exact ⟨rfl, HB3.out⟩
  have hne : ts ≠ [] := fun e => Nu.scanF_nonempty (g := g) (n := len0) (k := len0 + 1) (p := 0) (by omega) (by rw [← e]; exact hs)
  have htl := Nu.scan_length hs
  obtain ⟨m, hm⟩ : ∃ m, ts.length = m + 1 := ⟨ts.length - 1, by have := List.length_pos_iff.2 hne; omega⟩
  have HM := Nu.hid hm
  have HS := Nu.hid hs
  have HX3 := Nu.hid hrow.slice
  have HNE := Nu.hid hne
  rw [hm]
  rw [hm] at htl
  clear hs hrow hm hne
  go_wp2
  go_loopw [6, 7] (fun at_ c wr => ∃ (us vs : List Nu.Tok) (p k : Nat), ts = us ++ vs ∧ c = .int .i64 us.length ∧ at_ = .int .i64 p ∧ p ≤ len0 ∧ (vs ≠ [] → len0 - p < k) ∧ Nu.scanF g len0 k p = .ok vs ∧ (vs = [] → p = len0 ∧ ∃ us', us = us' ++ [⟨3, len0, len0, 0⟩]) ∧ Below w3.heap.size w3 wr) (fun _ c _ => ts.length - (intOf c).toNat)
  case atStart => exact ⟨[], ts, 0, len0 + 1, rfl, rfl, rfl, Nat.zero_le _, fun _ => by omega, HS.out, fun e => absurd e HNE.out, Below.refl _ _⟩
  case round =>
    obtain ⟨us, vs, p, k, hts, rfl, rfl, hp, hkf, hsf, hend, hbr⟩ := hrel
    have hul : us.length + vs.length = m + 1 := by rw [← HM.out, hts]; simp
    have HTS := Nu.hid hts
    cases vs with
    | nil =>
      obtain ⟨rfl, us', hus⟩ := hend rfl
      have hum : us.length = m + 1 := by simpa using hul
      have hx : At4 wr T m 3 p p 0 := (at4_of HX3.out (j := m) (t := ⟨3, p, p, 0⟩) (by
        have e : ts = us' ++ [⟨3, p, p, 0⟩] := by rw [hts, List.append_nil, hus]
        have e2 : us'.length = m := by have := congrArg List.length hus; simp at this; omega
        rw [e, ← e2]; simp)).later hbr
      obtain ⟨x0, x1, x2, x3⟩ := hx
      have hd : ¬ ((us.length : Int) < (m : Int) + 1) := by omega
      have jm : (0 : Int) < (m : Int) + 1 := by omega
      clear hts hkf hsf hend hul hus x1 x2 x3
      clear hum
      go_wp2
      go_ret
      exact ⟨rfl, HB3.out.trans (hbr.mono HB3.out.size)⟩
    | cons t vs =>
      have hlt' : (us.length : Int) < (m : Int) + 1 := by simp at hul; omega
      have hle' : us.length < m + 1 := by simp at hul; omega
      obtain ⟨p', hnx, hp', hrest⟩ := Nu.scanF_end hp (hkf (by simp)) hsf
      obtain ⟨q, hL⟩ := Nu.next_lies hp hnx
      have hfit := Nu.next_fits hp hnx
      have htx : ts[us.length]? = some t := by rw [hts]; simp
      obtain ⟨x0, x1, x2, x3⟩ := (at4_of HX3.out htx).later hbr
      have HREST := Nu.hid hrest
      have HL := Nu.hid hL
      obtain ⟨tk, ta, tf, tn⟩ := t
      have e1 : ta = q := hL.at_
      have e2 : tf = p' := hL.fin_
      subst e1 e2
      dsimp only at x0 x1 x2 x3
      have hlo := hL.lo
      have hqp : q ≤ p' := by
        rcases hL.kinds with ⟨_, h1, h2⟩ | ⟨_, _, _, h2⟩ | ⟨_, h2, _⟩ <;> omega
      have hqn : q ≤ len0 := by omega
      have hn1 : 0 ≤ tn := hfit.2.2.2.2.2.1
      have HTN : Hid (tk = 3 → tn = 0) := fun h3 => by
        have hsk := Nu.skip_is Nu.isBlank g len0 p hp
        rcases hL.kinds with ⟨_, h1, _⟩ | ⟨h2, _⟩ | ⟨h2, _⟩
        · exact Nu.next_end_num hp hnx h3
        · exact absurd h3 (by rw [show tk = 2 from h2]; decide)
        · exact absurd h3 (by rw [show tk = 1 from h2]; decide)
      have hn2 : tn < 1000000000 := hfit.2.2.2.2.2.2
      have hTl : T < wr.heap.size := block_lt_of_cell x0
      have hk0 : (0 : Int) ≤ (us.length : Int) := by omega
      have f1 : ¬ ((q : Int) < (p : Int)) := by omega
      have f2 : ¬ ((len0 : Int) < (q : Int)) := by omega
      have f3 : ¬ ((len0 : Int) < (p' : Int)) := by omega
      have HBL := Nu.hid hL.blank
      have hkinds := hL.kinds
      clear hts hkf hsf hend hul hnx hrest hL hfit htx
      rcases hkinds with ⟨hk3, hq3, hp3⟩ | ⟨hk2, hq2, hg2, hp2⟩ | ⟨hk1, hq1, hdig, hle9, hlead, hval⟩
      · have e3 : tk = 3 := hk3
        subst e3
        have f4 : (p' : Int) ≤ (q : Int) := by omega
        clear hk3
        have HQ3 := Nu.hid hq3
        have HP3 := Nu.hid hp3
        clear hq3 hp3
        go_wp2_with fail
        go_loop [9] (fun c => ∃ (j : Nat), p ≤ j ∧ j ≤ q ∧ c = .int .i64 j) (fun c => q - (intOf c).toNat)
        case atStart => exact ⟨p, Nat.le_refl _, hlo, rfl⟩
        case round =>
          obtain ⟨j, hj1, hj2, rfl⟩ := hrel
          by_cases hjq : j < q
          · have hjqi : (j : Int) < (q : Int) := by omega
            have hjn : (j : Int) < (len0 : Int) := by omega
            have hj0 : (0 : Int) ≤ (j : Int) := by omega
            obtain ⟨_, tb, to, ea, cj⟩ := (HTX.out.later (HB3.out.trans (hbr.mono HB3.out.size))) j (by omega)
            have htb : tb < wr.heap.size := block_lt_of_cell cj
            first | subst ea | cases ea
            have hbl := HBL.out j hj1 hjq
            rcases (show g j = 32 ∨ g j = 9 ∨ g j = 13 by simpa [Nu.isBlank] using hbl) with h | h | h
            all_goals
              have n1 : (g j != 32) = (g j != 32) := rfl
              rw [h] at cj
              clear n1 hbl h
              go_wp2
              go_round
              case rel => exact ⟨j + 1, by omega, by omega, by go_num⟩
              case measure => simp [intOf]; omega
          have hjq' : ¬ ((j : Int) < (q : Int)) := by omega
          go_wp2_with fail
          go_quiet (fail)
          go_wp2
          go_roundw
          case rel =>
            refine ⟨us ++ [⟨3, q, p', tn⟩], vs, p', 0, by rw [HTS.out]; simp, by simp, rfl, hp', ?_, ?_, ?_, below_drewN (hbr.alloc hbr.size _) _⟩
            · intro h
              rcases HREST.out with ⟨_, h'⟩ | ⟨h', _⟩
              · exact absurd h' h
              · exact absurd rfl h'
            · rcases HREST.out with ⟨_, rfl⟩ | ⟨h', _⟩
              · rfl
              · exact absurd rfl h'
            · intro _
              refine ⟨HP3.out, us, ?_⟩
              have e5 : tn = 0 := by first | exact HTN.out rfl | exact HTN.out trivial
              rw [HQ3.out, HP3.out, e5]
          case measure => have := HM.out; simp [intOf]; omega
      · have e2 : tk = 2 := hk2
        subst e2
        have f4 : ¬ ((p' : Int) ≤ (q : Int)) := by omega
        clear hk2
        have HP2 := Nu.hid hp2
        have HG2 := Nu.hid hg2
        have f5 : (g q != 10) = false := by simp [hg2]
        have f6 : ((p' : Int) != (q : Int) + 1) = false := by simp; omega
        have f7 : (q : Int) < (len0 : Int) := by omega
        clear hp2 hg2
        obtain ⟨⟨gq0, gq1⟩, tbq, toq, eaq, cq⟩ := (HTX.out.later (HB3.out.trans (hbr.mono HB3.out.size))) q hq2
        have htbq : tbq < wr.heap.size := block_lt_of_cell cq
        subst eaq
        go_wp2_with fail
        go_loop [9] (fun c => ∃ (j : Nat), p ≤ j ∧ j ≤ q ∧ c = .int .i64 j) (fun c => q - (intOf c).toNat)
        case atStart => exact ⟨p, Nat.le_refl _, hlo, rfl⟩
        case round =>
          obtain ⟨j, hj1, hj2, rfl⟩ := hrel
          by_cases hjq : j < q
          · have hjqi : (j : Int) < (q : Int) := by omega
            have hjn : (j : Int) < (len0 : Int) := by omega
            have hj0 : (0 : Int) ≤ (j : Int) := by omega
            obtain ⟨_, tb, to, ea, cj⟩ := (HTX.out.later (HB3.out.trans (hbr.mono HB3.out.size))) j (by omega)
            have htb : tb < wr.heap.size := block_lt_of_cell cj
            first | subst ea | cases ea
            have hbl := HBL.out j hj1 hjq
            rcases (show g j = 32 ∨ g j = 9 ∨ g j = 13 by simpa [Nu.isBlank] using hbl) with h | h | h
            all_goals
              have n1 : (g j != 32) = (g j != 32) := rfl
              rw [h] at cj
              clear n1 hbl h
              go_wp2
              go_round
              case rel => exact ⟨j + 1, by omega, by omega, by go_num⟩
              case measure => simp [intOf]; omega
          have hjq' : ¬ ((j : Int) < (q : Int)) := by omega
          go_wp2_with fail
          go_quiet (fail)
          go_wp2
          go_roundw
          case rel =>
            rcases HREST.out with ⟨h', _⟩ | ⟨_, k', hk', hs'⟩
            · exact absurd h' (by decide)
            · exact ⟨us ++ [⟨2, q, p', tn⟩], vs, p', k', by rw [HTS.out]; simp, by simp, rfl, hp', fun _ => hk', hs', fun e => absurd (by rw [← e]; exact hs') (Nu.scanF_nonempty hk'), below_drewN (hbr.alloc hbr.size _) _⟩
          case measure => have := HM.out; simp [intOf]; omega
      · have e1 : tk = 1 := hk1
        subst e1
        have f4 : ¬ ((p' : Int) ≤ (q : Int)) := by omega
        have hql : q < len0 := by omega
        obtain ⟨_, tbq, toq, eaq, cq⟩ := (HTX.out.later (HB3.out.trans (hbr.mono HB3.out.size))) q hql
        subst eaq
        obtain ⟨L, hLL⟩ : ∃ L, L = Nu.bytesAt g q (p' - q) := ⟨_, rfl⟩
        have hit : Lib.itoa tn = L := by
          rw [hLL, show tn = Nu.val g q (p' - q) from hval]
          exact Nu.itoa_val g q (p' - q) (by omega) (fun i hi => hdig (q + i) (by omega) (by omega)) hlead
        have V := fun (W : World) (h : Tab W) => text_any tn (by omega) (by omega) W h
        rw [hit] at V
        have HV := Nu.hid V
        have HLL := Nu.hid hLL
        have LN : Leans wr.heap.size tbq toq len0 (cap0 - q) q p' g tn L (wr.alloc (.cells #[.int .i64 1, .int .i64 q, .int .i64 p', .int .i64 tn] 39)) :=
          ⟨by simp [World.cell?_alloc_at], by simp [World.cell?_alloc_at], by simp [World.cell?_alloc_at], by simp [World.cell?_alloc_at], (HTX.out.later (HB3.out.trans (hbr.mono HB3.out.size))).alloc _, (HTAB.out.below (HB3.out.trans (hbr.mono HB3.out.size))).below ((Below.refl _ _).alloc (Nat.le_refl _) _), by rw [hLL]; exact text_conv ((HTX.out.later (HB3.out.trans (hbr.mono HB3.out.size))).alloc _) hp' hqp⟩
        have HLN := Nu.hid LN
        have i1 : (q : Int) ≤ (p' : Int) := by omega
        have i2 : (p' : Int) ≤ (cap0 : Int) := by omega
        have i3 : (0 : Int) ≤ (q : Int) := by omega
        clear hk1 hdig hle9 hlead hval hit V hLL LN cq
        go_wp2_with fail
        go_loop [9] (fun c => ∃ (j : Nat), p ≤ j ∧ j ≤ q ∧ c = .int .i64 j) (fun c => q - (intOf c).toNat)
        case atStart => exact ⟨p, Nat.le_refl _, hlo, rfl⟩
        case round =>
          obtain ⟨j, hj1, hj2, rfl⟩ := hrel
          by_cases hjq : j < q
          · have hjqi : (j : Int) < (q : Int) := by omega
            have hjn : (j : Int) < (len0 : Int) := by omega
            have hj0 : (0 : Int) ≤ (j : Int) := by omega
            obtain ⟨_, tb, to, ea, cj⟩ := (HTX.out.later (HB3.out.trans (hbr.mono HB3.out.size))) j (by omega)
            have htb : tb < wr.heap.size := block_lt_of_cell cj
            first | subst ea | cases ea
            have hbl := HBL.out j hj1 hjq
            rcases (show g j = 32 ∨ g j = 9 ∨ g j = 13 by simpa [Nu.isBlank] using hbl) with h | h | h
            all_goals
              have n1 : (g j != 32) = (g j != 32) := rfl
              rw [h] at cj
              clear n1 hbl h
              go_wp2
              go_round
              case rel => exact ⟨j + 1, by omega, by omega, by go_num⟩
              case measure => simp [intOf]; omega
          have hjq' : ¬ ((j : Int) < (q : Int)) := by omega
          obtain ⟨s0, s1, s2, s3, s4, s5, s6⟩ := HLN.out
          go_wp2_with fail
          have hdr := leans_drew HLL.out hp' hqp HLN.out
          have HDR := Nu.hid hdr
          clear s4 s5 s6 hdr
          refine wp_region_noPanic ?_
          refine wp_region_held_drew (S := Leans wr.heap.size tbq toq len0 (cap0 - q) q p' g tn L) (by kernel_rfl) HDR.out (fun hHeld => ?_)
          refine wpAnyH_take (i := 0) (oi := { dst := some 90, op := Op.fieldAddr 39 (Operand.tmp 8) 0, type := 0, pos := "law.go:126", after := #[], guard := none }) (v := .pointer (some ⟨wr.heap.size, 0, none⟩)) rfl (by kernel_rfl) (by kernel_rfl) (by kernel_rfl) (fun _ _ _ h => h) (Or.inl ⟨by rfl, fun W hW => ?_⟩) hHeld ?_
          · obtain ⟨c0, c1, c2, c3, -, -, c6⟩ := hW
            go_simp
          try simp only [Act.put, List.setIfInBounds_toArray, List.set_cons_zero, List.set_cons_succ]
          refine wpAnyH_take (i := 1) (oi := { dst := some 91, op := Op.load 37 (Operand.tmp 90), type := 37, pos := "law.go:126", after := #[{ on := 0, ground := Ground.data }], guard := none }) (v := .int .i64 1) rfl (by kernel_rfl) (by kernel_rfl) (by kernel_rfl) (fun _ _ _ h => h) (Or.inl ⟨by rfl, fun W hW => ?_⟩) hHeld ?_
          · obtain ⟨c0, c1, c2, c3, -, -, c6⟩ := hW
            go_simp
          try simp only [Act.put, List.setIfInBounds_toArray, List.set_cons_zero, List.set_cons_succ]
          refine wpAnyH_take (i := 2) (oi := { dst := some 92, op := Op.binOp BinOp.eql 37 (Operand.tmp 91) (Operand.const (Value.int IntKind.i64 1)) 37, type := 4, pos := "law.go:126", after := #[{ on := 1, ground := Ground.data }], guard := none }) (v := .bool true) rfl (by kernel_rfl) (by kernel_rfl) (by kernel_rfl) (fun _ _ _ h => h) (Or.inl ⟨by rfl, fun W hW => ?_⟩) hHeld ?_
          · obtain ⟨c0, c1, c2, c3, -, -, c6⟩ := hW
            go_simp
          try simp only [Act.put, List.setIfInBounds_toArray, List.set_cons_zero, List.set_cons_succ]
          refine wpAnyH_take (i := 3) (oi := { dst := some 93, op := Op.move (Operand.tmp 92), type := 4, pos := "law.go:126", after := #[{ on := 2, ground := Ground.data }], guard := none }) (v := .bool true) rfl (by kernel_rfl) (by kernel_rfl) (by kernel_rfl) (fun _ _ _ h => h) (Or.inl ⟨by rfl, fun W hW => ?_⟩) hHeld ?_
          · obtain ⟨c0, c1, c2, c3, -, -, c6⟩ := hW
            go_simp
          try simp only [Act.put, List.setIfInBounds_toArray, List.set_cons_zero, List.set_cons_succ]
          refine wpAnyH_take (i := 4) (oi := { dst := some 94, op := Op.fieldAddr 39 (Operand.tmp 8) 3, type := 0, pos := "law.go:126", after := #[{ on := 3, ground := Ground.guard }], guard := some (3, true) }) (v := .pointer (some ⟨wr.heap.size, 3, none⟩)) rfl (by kernel_rfl) (by kernel_rfl) (by kernel_rfl) (fun _ _ _ h => h) (Or.inl ⟨by rfl, fun W hW => ?_⟩) hHeld ?_
          · obtain ⟨c0, c1, c2, c3, -, -, c6⟩ := hW
            go_simp
          try simp only [Act.put, List.setIfInBounds_toArray, List.set_cons_zero, List.set_cons_succ]
          refine wpAnyH_take (i := 5) (oi := { dst := some 95, op := Op.load 3 (Operand.tmp 94), type := 3, pos := "law.go:126", after := #[{ on := 4, ground := Ground.data }, { on := 3, ground := Ground.guard }], guard := some (3, true) }) (v := .int .i64 tn) rfl (by kernel_rfl) (by kernel_rfl) (by kernel_rfl) (fun _ _ _ h => h) (Or.inl ⟨by rfl, fun W hW => ?_⟩) hHeld ?_
          · obtain ⟨c0, c1, c2, c3, -, -, c6⟩ := hW
            go_simp
          try simp only [Act.put, List.setIfInBounds_toArray, List.set_cons_zero, List.set_cons_succ]
          refine wpAnyH_take (i := 7) (oi := { dst := some 97, op := Op.move (Operand.tmp 0), type := 22, pos := "law.go:126", after := #[{ on := 3, ground := Ground.guard }], guard := some (3, true) }) (v := .slice (some ⟨tbq, toq, none⟩) len0 cap0) rfl (by kernel_rfl) (by kernel_rfl) (by kernel_rfl) (fun _ _ _ h => h) (Or.inl ⟨by rfl, fun W hW => ?_⟩) hHeld ?_
          · obtain ⟨c0, c1, c2, c3, -, -, c6⟩ := hW
            go_simp
          try simp only [Act.put, List.setIfInBounds_toArray, List.set_cons_zero, List.set_cons_succ]
          refine wpAnyH_take (i := 8) (oi := { dst := some 98, op := Op.fieldAddr 39 (Operand.tmp 8) 1, type := 0, pos := "law.go:126", after := #[{ on := 3, ground := Ground.guard }], guard := some (3, true) }) (v := .pointer (some ⟨wr.heap.size, 1, none⟩)) rfl (by kernel_rfl) (by kernel_rfl) (by kernel_rfl) (fun _ _ _ h => h) (Or.inl ⟨by rfl, fun W hW => ?_⟩) hHeld ?_
          · obtain ⟨c0, c1, c2, c3, -, -, c6⟩ := hW
            go_simp
          try simp only [Act.put, List.setIfInBounds_toArray, List.set_cons_zero, List.set_cons_succ]
          refine wpAnyH_take (i := 9) (oi := { dst := some 99, op := Op.load 3 (Operand.tmp 98), type := 3, pos := "law.go:126", after := #[{ on := 8, ground := Ground.data }, { on := 3, ground := Ground.guard }], guard := some (3, true) }) (v := .int .i64 q) rfl (by kernel_rfl) (by kernel_rfl) (by kernel_rfl) (fun _ _ _ h => h) (Or.inl ⟨by rfl, fun W hW => ?_⟩) hHeld ?_
          · obtain ⟨c0, c1, c2, c3, -, -, c6⟩ := hW
            go_simp
          try simp only [Act.put, List.setIfInBounds_toArray, List.set_cons_zero, List.set_cons_succ]
          refine wpAnyH_take (i := 10) (oi := { dst := some 100, op := Op.fieldAddr 39 (Operand.tmp 8) 2, type := 0, pos := "law.go:126", after := #[{ on := 3, ground := Ground.guard }], guard := some (3, true) }) (v := .pointer (some ⟨wr.heap.size, 2, none⟩)) rfl (by kernel_rfl) (by kernel_rfl) (by kernel_rfl) (fun _ _ _ h => h) (Or.inl ⟨by rfl, fun W hW => ?_⟩) hHeld ?_
          · obtain ⟨c0, c1, c2, c3, -, -, c6⟩ := hW
            go_simp
          try simp only [Act.put, List.setIfInBounds_toArray, List.set_cons_zero, List.set_cons_succ]
          refine wpAnyH_take (i := 11) (oi := { dst := some 101, op := Op.load 3 (Operand.tmp 100), type := 3, pos := "law.go:126", after := #[{ on := 10, ground := Ground.data }, { on := 3, ground := Ground.guard }], guard := some (3, true) }) (v := .int .i64 p') rfl (by kernel_rfl) (by kernel_rfl) (by kernel_rfl) (fun _ _ _ h => h) (Or.inl ⟨by rfl, fun W hW => ?_⟩) hHeld ?_
          · obtain ⟨c0, c1, c2, c3, -, -, c6⟩ := hW
            go_simp
          try simp only [Act.put, List.setIfInBounds_toArray, List.set_cons_zero, List.set_cons_succ]
          refine wpAnyH_take (i := 12) (oi := { dst := some 102, op := Op.slice 22 (Operand.tmp 97) (some (Operand.tmp 99)) (some (Operand.tmp 101)) none, type := 22, pos := "law.go:126", after := #[{ on := 7, ground := Ground.data }, { on := 9, ground := Ground.data }, { on := 11, ground := Ground.data }, { on := 3, ground := Ground.guard }], guard := some (3, true) }) (v := .slice (some ⟨tbq, toq + q, none⟩) (p' - q) (cap0 - q)) rfl (by kernel_rfl) (by kernel_rfl) (by kernel_rfl) (fun _ _ _ h => h) (Or.inl ⟨by rfl, fun W hW => ?_⟩) hHeld ?_
          · obtain ⟨c0, c1, c2, c3, -, -, c6⟩ := hW
            go_simp
            first | done | (intro h; omega)
          try simp only [Act.put, List.setIfInBounds_toArray, List.set_cons_zero, List.set_cons_succ]
          refine wpAnyH_take (i := 13) (oi := { dst := some 103, op := Op.convert 22 9 (Operand.tmp 102), type := 9, pos := "law.go:126", after := #[{ on := 12, ground := Ground.data }, { on := 3, ground := Ground.guard }], guard := some (3, true) }) (v := .string ⟨L.toArray⟩) rfl (by kernel_rfl) (by kernel_rfl) (by kernel_rfl) (fun _ _ _ h => h) (Or.inl ⟨by rfl, fun W hW => ?_⟩) hHeld ?_
          · obtain ⟨c0, c1, c2, c3, -, -, c6⟩ := hW
            go_simp
          try simp only [Act.put, List.setIfInBounds_toArray, List.set_cons_zero, List.set_cons_succ]
          refine wpAnyH_ready (rs := [6]) (by kernel_rfl) (by simp) ?_
          refine AllReadyH.cons (o := { dst := some 96, op := Op.call { callee := Callee.value (Operand.func 15), args := #[Operand.tmp 95], argTypes := #[3] }, type := 9, pos := "law.go:126", after := #[{ on := 5, ground := Ground.data }, { on := 3, ground := Ground.chain }, { on := 3, ground := Ground.guard }], guard := some (3, true) }) rfl (fun K hK => ?_) AllReadyH.nil
          go_simp
          refine (HV.out _ (by exact HDR.out.2.2.2.2.2.1)).mono ?_
          rintro e w' ⟨rfl, hgw⟩
          go_wp2_with fail
          refine hK.out _ _ (leans_grown HLL.out hp' hqp hgw HDR.out) (fun hHeld => ?_)
          clear hK K
          try simp only [Act.put, List.setIfInBounds_toArray, List.set_cons_zero, List.set_cons_succ]
          refine wpAnyH_take (i := 14) (oi := { dst := some 104, op := Op.binOp BinOp.neq 9 (Operand.tmp 96) (Operand.tmp 103) 9, type := 4, pos := "law.go:126", after := #[{ on := 6, ground := Ground.data }, { on := 13, ground := Ground.data }, { on := 3, ground := Ground.guard }], guard := some (3, true) }) (v := .bool false) rfl (by kernel_rfl) (by kernel_rfl) (by kernel_rfl) (fun _ _ _ h => h) (Or.inl ⟨by rfl, fun W hW => ?_⟩) hHeld ?_
          · obtain ⟨c0, c1, c2, c3, -, -, c6⟩ := hW
            go_simp
          try simp only [Act.put, List.setIfInBounds_toArray, List.set_cons_zero, List.set_cons_succ]
          refine wpAnyH_take (i := 15) (oi := { dst := some 105, op := Op.pick (Operand.tmp 93) (Operand.tmp 104) (Operand.const (Value.bool false)), type := 4, pos := "law.go:126", after := #[{ on := 3, ground := Ground.data }, { on := 14, ground := Ground.data }], guard := none }) (v := .bool false) rfl (by kernel_rfl) (by kernel_rfl) (by kernel_rfl) (fun _ _ _ h => h) (Or.inl ⟨by rfl, fun W hW => ?_⟩) hHeld ?_
          · obtain ⟨c0, c1, c2, c3, -, -, c6⟩ := hW
            go_simp
          try simp only [Act.put, List.setIfInBounds_toArray, List.set_cons_zero, List.set_cons_succ]
          refine wpAnyH_take (i := 16) (oi := { dst := some 106, op := Op.move (Operand.tmp 105), type := 4, pos := "law.go:126", after := #[{ on := 15, ground := Ground.data }, { on := 6, ground := Ground.chain }], guard := none }) (v := .bool false) rfl (by kernel_rfl) (by kernel_rfl) (by kernel_rfl) (fun _ _ _ h => h) (Or.inl ⟨by rfl, fun W hW => ?_⟩) hHeld ?_
          · obtain ⟨c0, c1, c2, c3, -, -, c6⟩ := hW
            go_simp
          try simp only [Act.put, List.setIfInBounds_toArray, List.set_cons_zero, List.set_cons_succ]
          refine wpAnyH_take (i := 17) (oi := { dst := some 107, op := Op.fieldAddr 39 (Operand.tmp 8) 0, type := 0, pos := "law.go:126", after := #[{ on := 16, ground := Ground.guard }], guard := some (16, false) }) (v := .pointer (some ⟨wr.heap.size, 0, none⟩)) rfl (by kernel_rfl) (by kernel_rfl) (by kernel_rfl) (fun _ _ _ h => h) (Or.inl ⟨by rfl, fun W hW => ?_⟩) hHeld ?_
          · obtain ⟨c0, c1, c2, c3, -, -, c6⟩ := hW
            go_simp
          try simp only [Act.put, List.setIfInBounds_toArray, List.set_cons_zero, List.set_cons_succ]
          refine wpAnyH_take (i := 18) (oi := { dst := some 108, op := Op.load 37 (Operand.tmp 107), type := 37, pos := "law.go:126", after := #[{ on := 17, ground := Ground.data }, { on := 16, ground := Ground.guard }], guard := some (16, false) }) (v := .int .i64 1) rfl (by kernel_rfl) (by kernel_rfl) (by kernel_rfl) (fun _ _ _ h => h) (Or.inl ⟨by rfl, fun W hW => ?_⟩) hHeld ?_
          · obtain ⟨c0, c1, c2, c3, -, -, c6⟩ := hW
            go_simp
          try simp only [Act.put, List.setIfInBounds_toArray, List.set_cons_zero, List.set_cons_succ]
          refine wpAnyH_take (i := 19) (oi := { dst := some 109, op := Op.binOp BinOp.eql 37 (Operand.tmp 108) (Operand.const (Value.int IntKind.i64 2)) 37, type := 4, pos := "law.go:126", after := #[{ on := 18, ground := Ground.data }, { on := 16, ground := Ground.guard }], guard := some (16, false) }) (v := .bool false) rfl (by kernel_rfl) (by kernel_rfl) (by kernel_rfl) (fun _ _ _ h => h) (Or.inl ⟨by rfl, fun W hW => ?_⟩) hHeld ?_
          · obtain ⟨c0, c1, c2, c3, -, -, c6⟩ := hW
            go_simp
          try simp only [Act.put, List.setIfInBounds_toArray, List.set_cons_zero, List.set_cons_succ]
          refine wpAnyH_take (i := 20) (oi := { dst := some 110, op := Op.move (Operand.tmp 109), type := 4, pos := "law.go:126", after := #[{ on := 19, ground := Ground.data }, { on := 16, ground := Ground.chain }, { on := 16, ground := Ground.guard }], guard := some (16, false) }) (v := .bool false) rfl (by kernel_rfl) (by kernel_rfl) (by kernel_rfl) (fun _ _ _ h => h) (Or.inl ⟨by rfl, fun W hW => ?_⟩) hHeld ?_
          · obtain ⟨c0, c1, c2, c3, -, -, c6⟩ := hW
            go_simp
          try simp only [Act.put, List.setIfInBounds_toArray, List.set_cons_zero, List.set_cons_succ]
          refine wpAnyH_take (i := 21) (oi := { dst := some 111, op := Op.move (Operand.tmp 0), type := 22, pos := "law.go:126", after := #[{ on := 20, ground := Ground.guard }], guard := some (20, true) }) (v := undef) rfl (by kernel_rfl) (by kernel_rfl) (by kernel_rfl) (fun _ _ _ h => h) (Or.inr ⟨by rfl, rfl⟩) hHeld ?_
          try simp only [Act.put, List.setIfInBounds_toArray, List.set_cons_zero, List.set_cons_succ]
          refine wpAnyH_take (i := 22) (oi := { dst := some 112, op := Op.fieldAddr 39 (Operand.tmp 8) 1, type := 0, pos := "law.go:126", after := #[{ on := 20, ground := Ground.guard }], guard := some (20, true) }) (v := undef) rfl (by kernel_rfl) (by kernel_rfl) (by kernel_rfl) (fun _ _ _ h => h) (Or.inr ⟨by rfl, rfl⟩) hHeld ?_
          try simp only [Act.put, List.setIfInBounds_toArray, List.set_cons_zero, List.set_cons_succ]
          refine wpAnyH_take (i := 23) (oi := { dst := some 113, op := Op.load 3 (Operand.tmp 112), type := 3, pos := "law.go:126", after := #[{ on := 22, ground := Ground.data }, { on := 20, ground := Ground.guard }], guard := some (20, true) }) (v := undef) rfl (by kernel_rfl) (by kernel_rfl) (by kernel_rfl) (fun _ _ _ h => h) (Or.inr ⟨by rfl, rfl⟩) hHeld ?_
          try simp only [Act.put, List.setIfInBounds_toArray, List.set_cons_zero, List.set_cons_succ]
          refine wpAnyH_take (i := 24) (oi := { dst := some 114, op := Op.indexAddr 22 (Operand.tmp 111) (Operand.tmp 113), type := 0, pos := "law.go:126", after := #[{ on := 21, ground := Ground.data }, { on := 23, ground := Ground.data }, { on := 20, ground := Ground.guard }], guard := some (20, true) }) (v := undef) rfl (by kernel_rfl) (by kernel_rfl) (by kernel_rfl) (fun _ _ _ h => h) (Or.inr ⟨by rfl, rfl⟩) hHeld ?_
          try simp only [Act.put, List.setIfInBounds_toArray, List.set_cons_zero, List.set_cons_succ]
          refine wpAnyH_take (i := 25) (oi := { dst := some 115, op := Op.load 5 (Operand.tmp 114), type := 5, pos := "law.go:126", after := #[{ on := 24, ground := Ground.data }, { on := 20, ground := Ground.guard }], guard := some (20, true) }) (v := undef) rfl (by kernel_rfl) (by kernel_rfl) (by kernel_rfl) (fun _ _ _ h => h) (Or.inr ⟨by rfl, rfl⟩) hHeld ?_
          try simp only [Act.put, List.setIfInBounds_toArray, List.set_cons_zero, List.set_cons_succ]
          refine wpAnyH_take (i := 26) (oi := { dst := some 116, op := Op.binOp BinOp.neq 5 (Operand.tmp 115) (Operand.const (Value.int IntKind.u8 10)) 5, type := 4, pos := "law.go:126", after := #[{ on := 25, ground := Ground.data }, { on := 20, ground := Ground.guard }], guard := some (20, true) }) (v := undef) rfl (by kernel_rfl) (by kernel_rfl) (by kernel_rfl) (fun _ _ _ h => h) (Or.inr ⟨by rfl, rfl⟩) hHeld ?_
          try simp only [Act.put, List.setIfInBounds_toArray, List.set_cons_zero, List.set_cons_succ]
          refine wpAnyH_take (i := 27) (oi := { dst := some 117, op := Op.move (Operand.tmp 116), type := 4, pos := "law.go:126", after := #[{ on := 26, ground := Ground.data }, { on := 20, ground := Ground.chain }, { on := 20, ground := Ground.guard }], guard := some (20, true) }) (v := undef) rfl (by kernel_rfl) (by kernel_rfl) (by kernel_rfl) (fun _ _ _ h => h) (Or.inr ⟨by rfl, rfl⟩) hHeld ?_
          try simp only [Act.put, List.setIfInBounds_toArray, List.set_cons_zero, List.set_cons_succ]
          refine wpAnyH_take (i := 28) (oi := { dst := some 118, op := Op.fieldAddr 39 (Operand.tmp 8) 2, type := 0, pos := "law.go:126", after := #[{ on := 27, ground := Ground.guard }], guard := some (27, false) }) (v := undef) rfl (by kernel_rfl) (by kernel_rfl) (by kernel_rfl) (fun _ _ _ h => h) (Or.inr ⟨by rfl, rfl⟩) hHeld ?_
          try simp only [Act.put, List.setIfInBounds_toArray, List.set_cons_zero, List.set_cons_succ]
          refine wpAnyH_take (i := 29) (oi := { dst := some 119, op := Op.load 3 (Operand.tmp 118), type := 3, pos := "law.go:126", after := #[{ on := 28, ground := Ground.data }, { on := 27, ground := Ground.guard }], guard := some (27, false) }) (v := undef) rfl (by kernel_rfl) (by kernel_rfl) (by kernel_rfl) (fun _ _ _ h => h) (Or.inr ⟨by rfl, rfl⟩) hHeld ?_
          try simp only [Act.put, List.setIfInBounds_toArray, List.set_cons_zero, List.set_cons_succ]
          refine wpAnyH_take (i := 30) (oi := { dst := some 120, op := Op.fieldAddr 39 (Operand.tmp 8) 1, type := 0, pos := "law.go:126", after := #[{ on := 27, ground := Ground.guard }], guard := some (27, false) }) (v := undef) rfl (by kernel_rfl) (by kernel_rfl) (by kernel_rfl) (fun _ _ _ h => h) (Or.inr ⟨by rfl, rfl⟩) hHeld ?_
          try simp only [Act.put, List.setIfInBounds_toArray, List.set_cons_zero, List.set_cons_succ]
          refine wpAnyH_take (i := 31) (oi := { dst := some 121, op := Op.load 3 (Operand.tmp 120), type := 3, pos := "law.go:126", after := #[{ on := 30, ground := Ground.data }, { on := 27, ground := Ground.guard }], guard := some (27, false) }) (v := undef) rfl (by kernel_rfl) (by kernel_rfl) (by kernel_rfl) (fun _ _ _ h => h) (Or.inr ⟨by rfl, rfl⟩) hHeld ?_
          try simp only [Act.put, List.setIfInBounds_toArray, List.set_cons_zero, List.set_cons_succ]
          refine wpAnyH_take (i := 32) (oi := { dst := some 122, op := Op.binOp BinOp.add 3 (Operand.tmp 121) (Operand.const (Value.int IntKind.i64 1)) 3, type := 3, pos := "law.go:126", after := #[{ on := 31, ground := Ground.data }, { on := 27, ground := Ground.guard }], guard := some (27, false) }) (v := undef) rfl (by kernel_rfl) (by kernel_rfl) (by kernel_rfl) (fun _ _ _ h => h) (Or.inr ⟨by rfl, rfl⟩) hHeld ?_
          try simp only [Act.put, List.setIfInBounds_toArray, List.set_cons_zero, List.set_cons_succ]
          refine wpAnyH_take (i := 33) (oi := { dst := some 123, op := Op.binOp BinOp.neq 3 (Operand.tmp 119) (Operand.tmp 122) 3, type := 4, pos := "law.go:126", after := #[{ on := 29, ground := Ground.data }, { on := 32, ground := Ground.data }, { on := 27, ground := Ground.guard }], guard := some (27, false) }) (v := undef) rfl (by kernel_rfl) (by kernel_rfl) (by kernel_rfl) (fun _ _ _ h => h) (Or.inr ⟨by rfl, rfl⟩) hHeld ?_
          try simp only [Act.put, List.setIfInBounds_toArray, List.set_cons_zero, List.set_cons_succ]
          refine wpAnyH_take (i := 34) (oi := { dst := some 124, op := Op.pick (Operand.tmp 117) (Operand.const (Value.bool true)) (Operand.tmp 123), type := 4, pos := "law.go:126", after := #[{ on := 27, ground := Ground.data }, { on := 33, ground := Ground.data }, { on := 20, ground := Ground.guard }], guard := some (20, true) }) (v := undef) rfl (by kernel_rfl) (by kernel_rfl) (by kernel_rfl) (fun _ _ _ h => h) (Or.inr ⟨by rfl, rfl⟩) hHeld ?_
          try simp only [Act.put, List.setIfInBounds_toArray, List.set_cons_zero, List.set_cons_succ]
          refine wpAnyH_take (i := 35) (oi := { dst := some 125, op := Op.pick (Operand.tmp 110) (Operand.tmp 124) (Operand.const (Value.bool false)), type := 4, pos := "law.go:126", after := #[{ on := 20, ground := Ground.data }, { on := 34, ground := Ground.data }, { on := 16, ground := Ground.guard }], guard := some (16, false) }) (v := .bool false) rfl (by kernel_rfl) (by kernel_rfl) (by kernel_rfl) (fun _ _ _ h => h) (Or.inl ⟨by rfl, fun W hW => ?_⟩) hHeld ?_
          · obtain ⟨c0, c1, c2, c3, -, -, c6⟩ := hW
            go_simp
          try simp only [Act.put, List.setIfInBounds_toArray, List.set_cons_zero, List.set_cons_succ]
          refine wpAnyH_take (i := 36) (oi := { dst := some 126, op := Op.pick (Operand.tmp 106) (Operand.const (Value.bool true)) (Operand.tmp 125), type := 4, pos := "law.go:126", after := #[{ on := 16, ground := Ground.data }, { on := 35, ground := Ground.data }], guard := none }) (v := .bool false) rfl (by kernel_rfl) (by kernel_rfl) (by kernel_rfl) (fun _ _ _ h => h) (Or.inl ⟨by rfl, fun W hW => ?_⟩) hHeld ?_
          · obtain ⟨c0, c1, c2, c3, -, -, c6⟩ := hW
            go_simp
          try simp only [Act.put, List.setIfInBounds_toArray, List.set_cons_zero, List.set_cons_succ]
          refine wpAnyH_done (by kernel_rfl) ?_ _
          refine NoPanic.normal ?_
          have hgb := (hbr.alloc hbr.size (.cells #[.int .i64 1, .int .i64 q, .int .i64 p', .int .i64 tn] 39)).drew.trans ((Below_of_grown hgw).mono (by have := hbr.size; simp; omega))
          obtain ⟨u0, u1, u2', u3, -, -, -⟩ := hHeld
          clear hgw
          go_wp2
          go_roundw
          case rel =>
            rcases HREST.out with ⟨h', _⟩ | ⟨_, k', hk', hs'⟩
            · exact absurd h' (by decide)
            · exact ⟨us ++ [⟨1, q, p', tn⟩], vs, p', k', by rw [HTS.out]; simp, by simp, rfl, hp', fun _ => hk', hs', fun e => absurd (by rw [← e]; exact hs') (Nu.scanF_nonempty hk'), hgb⟩
          case measure => have := HM.out; simp [intOf]; omega

/-- What the walk gives, for every argument and every world that holds the tables. -/
theorem contract (H : Type) (enc : TypeId × Value → H) (W : World) (base : Nat) (args : Array Value) (ds gs : List (DataW H)) (before : List MemPlace)
    (hval : ∀ (j : Nat) t v, Tryd.f7.params[j]? = some t → args[j]? = some v → Value.okWide Tryd.prog W .any base t v)
    (hW : DataW.Whole enc Tryd.prog Tryd.f7.params.toList Rows.numsLiesSpec.vars false W args.toList ds gs before)
    (hsz : (DataW.weightsEach Tryd.prog (Tryd.f7.params.toList ++ (OpenSpec.ofChange Rows.numsLiesSpec).bare.plain.varTypes Tryd.prog) (ds ++ gs)).all (· ≤ reachBytes) = true)
    (hL : laidMet Tryd.prog listed W) :
    Calls Tryd.prog 7 args W fun e W' => ∃ v, e = .returned v ∧ Rows.numsLiesSpec.post enc Tryd.prog Tryd.f7 false true false false W args v W' := by
  have hW' := hW
  obtain ⟨p, q, hA0, hV, rfl, hfz, hnd⟩ := hW
  have hA : DataW.TrodAll enc Tryd.prog W 0 (fun _ => true) true Tryd.f7.params.toList args.toList ds p := hA0
  rw [Tryd.params7] at hA hval hsz
  obtain ⟨v0, vs0, d0, ds0, p0, q0, hargs, rfl, rfl, h0, r0⟩ := trodAll_cons hA
  obtain ⟨rfl, rfl, rfl⟩ := trodAll_nil r0
  obtain rfl : args = #[v0] := by cases args; simp_all
  obtain ⟨rfl, rfl⟩ := trodVars_none hV
  obtain ⟨a0, len0, cap0, rfl⟩ := okWide_slice Tryd.underlying22 (hval 0 22 v0 rfl rfl)
  have k0 := h0
  have lt0 : ∀ x ∈ p0, x.block < W.heap.size := by obtain ⟨m, hm⟩ := k0; exact DataW.trod_lt m _ _ _ hm
  obtain ⟨z0, w0⟩ := IsRow.of_trod (j := 0) Tryd.underlying22 Tryd.underlying5 cellsU8 bytesU8 h0 hsz rfl rfl
  clear hA0
  refine (walk a0 len0 cap0 z0 W w0 (table hL)).mono fun e W' ⟨he, bel⟩ => ?_
  subst he
  exact ⟨_, rfl, _, _, _, [], _, [], hW', trodAll_mk1 (shut_bool Tryd.underlying4 _), (trodAll_cons_mk (Below.trod laidOut (by kernel_rfl) (of_decide_eq_true (by kernel_rfl)) k0 bel lt0) trodAll_mk0), rfl, bel.frame _, fun h => by cases h⟩

theorem laid_met (os : Os) : laidMet Tryd.prog Rows.numsLiesRow.laid ((laidWorld os).forCall (fun _ _ => 0) ⟨#[], #[.slice none 0 0], []⟩).memory :=
  laidMet_of_run' 100 (by kernel_rfl) (by kernel_rfl)
theorem reads (os : Os) {H : Type} (enc : TypeId × Value → H) : ∃ places, DataW.whole enc Tryd.prog ((laidWorld os).forCall (fun _ _ => 0) ⟨#[], #[.slice none 0 0], []⟩).memory Tryd.f7.params.toList Rows.numsLiesSpec.vars false (#[.slice none 0 0] : Array Value).toList 8 = some ([.nil], [], places) :=
  ⟨[], by kernel_rfl⟩

set_option maxRecDepth 100000 in
theorem lifted (os : Os) (started : os.Started) (H : Type) (enc : TypeId × Value → H) (F : Stop.Interp) :
    ReturnsInHanded {} Tryd.checked os 7 .any ((OpenSpec.ofChange Rows.numsLiesSpec).preRow enc Tryd.prog Tryd.f7 Rows.numsLiesRow.domain false Rows.numsLiesRow.laid) (((OpenSpec.ofChange Rows.numsLiesSpec).at F).post enc Tryd.prog Tryd.f7 false true false false) := by
  obtain ⟨places, hx⟩ := reads os enc
  refine returnsInHanded_of_row (C := Tryd.checked) (s := (OpenSpec.ofChange Rows.numsLiesSpec)) own started (by kernel_rfl) Tryd.func7
    (witness_row_at (enc := enc) (C := Tryd.checked) false (laidWorld os) #[.slice none 0 0] rfl (by kernel_rfl) (by kernel_rfl) (by kernel_rfl)
      (OpenSpec.preRow_of_cond 8 hx (by kernel_rfl) (fun k hk => by cases hk) (by kernel_rfl) (laid_met os))) ?_
  intro W base args ds gs before hval hW _ hcond hsz hL _ _
  exact contract H enc W base args ds gs before hval hW hsz hL

theorem said : Rows.NumsLiesSaid :=
  OpenClaim.holds_of_cond 7 Tryd.f7 rfl rfl rfl rfl rfl rfl rfl ⟨rfl, rfl, rfl, rfl, rfl⟩ rfl rfl rfl rfl rfl (by kernel_rfl) Tryd.func7 (by kernel_rfl)
    (of_decide_eq_true (by kernel_rfl)) (by unfold Func.isWrapper; first | (rw [if_pos (by decide +kernel)]; kernel_rfl) | (rw [if_neg (by decide +kernel)]; exact ⟨rfl, rfl⟩))
    (fun os started H enc _ F => by rw [OpenClaim.pre_eq_preRow]; exact lifted os started H enc F)

theorem plain (f : FuncId) (fn : Func) (hf : Tryd.pinned.checked.prog.funcNamed "tangram/tangramlaw01.NumsLies" = some f) (hfn : Tryd.pinned.checked.prog.funcs[f]? = some fn) :
    true = Tryd.pinned.checked.prog.looks [] ∧ ∀ (j : Nat) t, fn.params[j]? = some t → Tryd.pinned.checked.prog.wantsStandIn t = false := by
  obtain rfl : f = 7 := Option.some.inj ((show Tryd.prog.funcNamed "tangram/tangramlaw01.NumsLies" = some 7 by kernel_rfl).symm.trans hf) |>.symm
  obtain rfl : fn = Tryd.f7 := (Option.some.inj (Tryd.func7.symm.trans hfn)).symm
  refine ⟨by kernel_rfl, fun j t ht => ?_⟩
  rw [Tryd.params7] at ht
  obtain rfl : t = 22 := by simpa using Array.mem_of_getElem? ht
  exact (show Tryd.prog.wantsStandIn 22 = false by kernel_rfl)

theorem card : Rows.NumsLiesCardSaid :=
  Claim7.holds_tied_plain_at .later [] _ _ _ _ said (fun _ h => by cases h) (by kernel_rfl) (fun _ h => by cases h) numsLies_row_tie rfl ⟨rfl, rfl⟩ (by kernel_rfl) rfl plain (by kernel_rfl)


end lawLies

theorem numsLies_holds : Rows.NumsLiesCardSaid := lawLies.card

#print axioms numsLies_holds
end Go.Proofs.YtcglpafbmekabaaDoor
