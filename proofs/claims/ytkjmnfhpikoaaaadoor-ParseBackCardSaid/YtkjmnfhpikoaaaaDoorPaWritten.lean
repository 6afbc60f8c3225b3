/-
  What the statement's own written answers: a header and the pairs that fit, as lines.
-/
import Derived.Test.YtkjmnfhpikoaaaaDoorPaAppend
namespace Go.Proofs.YtkjmnfhpikoaaaaDoor
open Go.RowKit

theorem Tryd.infoPr : (Tryd.prog.info? 36).map (fun i => (i.zero, i.size, i.bytes)) = some (some (.agg #[.int .i64 0, .int .i64 0]), 2, 16) := by kernel_rfl

namespace Pa
theorem itoa_seven {x : Int} (h0 : 0 ≤ x) (h1 : x ≤ 9999999) : (Lib.itoa x).length ≤ 7 := by
  rw [Nu.itoa_small h0]
  have := Nu.nDigits_le 6 x.toNat (by omega)
  simpa [Lib.decDigits_length] using this

theorem row_small {p : Int × Int} (h : (0 ≤ p.1 ∧ p.1 ≤ 1048576) ∧ 0 ≤ p.2 ∧ p.2 ≤ 1048576) : (row p ++ [10]).length ≤ 16 := by
  have h1 := itoa_seven h.1.1 (by omega)
  have h2 := itoa_seven h.2.1 (by omega)
  simp [row]
  omega

theorem lineTo_two (a b : Int) : lineTo (two a b) 2 ++ [10] = row (a, b) ++ [10] := by simp [lineTo, two, row]

def fitB (n : Int) (p : Int × Int) : Bool := decide (0 ≤ p.1) && decide (p.1 < n) && decide (0 ≤ p.2) && decide (p.2 < n)

theorem fitB_iff {n : Int} {p : Int × Int} : fitB n p = true ↔ (0 ≤ p.1 ∧ p.1 < n) ∧ 0 ≤ p.2 ∧ p.2 < n := by
  simp [fitB, and_assoc]

theorem body_take (hd : Int × Int) (fit : List (Int × Int)) (k : Nat) (hk : k < fit.length) : body (hd :: fit.take (k + 1)) = body (hd :: fit.take k) ++ (row fit[k] ++ [10]) := by
  rw [List.take_succ_eq_append_getElem hk]
  unfold body
  rw [List.flatMap_cons, List.flatMap_cons, List.flatMap_append]
  simp only [List.flatMap_cons, List.flatMap_nil, List.append_nil, List.append_assoc]

theorem body_more (hd : Int × Int) (fit : List (Int × Int)) : body (hd :: (fit ++ [(0, 0)])) = body (hd :: fit) ++ [48, 32, 48, 10] := by
  have e : Lib.itoa 0 = [48] := by decide +kernel
  unfold body
  rw [List.flatMap_cons, List.flatMap_cons, List.flatMap_append]
  simp [row, e]

theorem body_bound {hd : Int × Int} {fit : List (Int × Int)} (h : ∀ p ∈ fit, (0 ≤ p.1 ∧ p.1 ≤ 1048576) ∧ 0 ≤ p.2 ∧ p.2 ≤ 1048576) : (body (hd :: fit)).length ≤ (row hd ++ [10]).length + 16 * fit.length := by
  induction fit with
  | nil => simp [body]
  | cons p r ih =>
    have h1 := row_small (h p List.mem_cons_self)
    have h2 := ih (fun q hq => h q (List.mem_cons_of_mem _ hq))
    simp [body] at h1 h2 ⊢
    omega
end Pa

/-- The pairs qs lie at ao, each two cells. -/
def HasPrs (w : World) (ao : Option Addr) (qs : List (Int × Int)) : Prop := ∀ (i : Nat) (q : Int × Int), qs[i]? = some q → ((-9223372036854775808 ≤ q.1 ∧ q.1 ≤ 9223372036854775807) ∧ -9223372036854775808 ≤ q.2 ∧ q.2 ≤ 9223372036854775807) ∧
  ∃ tb to, ao = some ⟨tb, to, none⟩ ∧ w.cell? ⟨tb, to + i * 2, none⟩ = some (.int .i64 q.1) ∧ w.cell? ⟨tb, to + i * 2 + 1, none⟩ = some (.int .i64 q.2)

theorem HasPrs.later {w w' : World} {ao : Option Addr} {qs : List (Int × Int)} (h : HasPrs w ao qs) (hb : Below w.heap.size w w') : HasPrs w' ao qs := fun i q hq => by
  obtain ⟨h0, tb, to, e, h1, h2⟩ := h i q hq
  exact ⟨h0, tb, to, e, (hb.cell (p := ⟨tb, to + i * 2, none⟩) (block_lt_of_cell h1)).trans h1, (hb.cell (p := ⟨tb, to + i * 2 + 1, none⟩) (block_lt_of_cell h2)).trans h2⟩

/-- v is a row of the pairs ps, laid since block B. -/
def OwnPrs (w : World) (B : Nat) (v : Value) (ps : List (Int × Int)) : Prop := w.ownsRow B 36 2 v ps.length (flatP ps)

theorem OwnPrs.at {w : World} {B : Nat} {v : Value} {ps : List (Int × Int)} (h : OwnPrs w B v ps) : PairsAt w v ps := by
  have h' := h
  unfold OwnPrs at h'
  rcases h.2 with ⟨rfl, h0⟩ | ⟨g, cap, cur, rfl, _⟩
  · refine ⟨none, 0, by rw [h0], fun j p hj => ?_⟩
    rw [List.length_eq_zero_iff.1 h0] at hj
    simp at hj
  · refine ⟨_, cap, rfl, fun j p hj => ⟨g, rfl, ?_⟩⟩
    have hc := World.ownsRow.cells h' (g := g) rfl
    simp only [addr0] at hc
    obtain ⟨h0, h1⟩ := flatP_at ps j p hj
    exact ⟨hc _ _ h0, hc _ _ h1⟩

theorem OwnB.below {w w' : World} {A B : Nat} {v : Value} {L : List UInt8} (h : OwnB w B v L) (hb : Below A w w') (hA : w.heap.size ≤ A) : OwnB w' B v L := by
  obtain ⟨g, cap, cur, fz, e, hB, hh, hr⟩ := h
  exact ⟨g, cap, cur, fz, e, hB, (hb.block g (by have := lt_of_block hh; omega)).trans hh, hr⟩

theorem ints_two (W : World) (k : Nat) (hk : W.heap.size = k) (a b : Int) (ha : -9223372036854775808 ≤ a ∧ a ≤ 9223372036854775807) (hb : -9223372036854775808 ≤ b ∧ b ≤ 9223372036854775807) :
    HasInts (W.alloc (.cells #[.int .i64 a, .int .i64 b] 3)) (some ⟨k, 0, none⟩) 2 (Pa.two a b) := fun i hi => by
  subst hk
  rcases (show i = 0 ∨ i = 1 by omega) with rfl | rfl
  · exact ⟨by simpa [Pa.two] using ha, _, _, rfl, by simp [Pa.two]⟩
  · exact ⟨by simpa [Pa.two] using hb, _, _, rfl, by simp [Pa.two]⟩

theorem new_two (W : World) (k : Nat) (hk : W.heap.size = k) (a b : Value) : ∀ j u, [a, b][j]? = some u → (W.alloc (.cells #[a, b] 36)).cell? ((⟨k, 0, none⟩ : Addr).add j) = some u := by
  subst hk
  exact World.news_of_block (cs := #[a, b]) (t := 36) (fr := (0, 0)) (heap_alloc_new W _)

theorem OwnPrs.below {w w' : World} {B : Nat} {v : Value} {ps : List (Int × Int)} (h : OwnPrs w B v ps) (hb : Below w.heap.size w w') : OwnPrs w' B v ps := by
  refine ⟨h.1, ?_⟩
  rcases h.2 with h | ⟨g, cap, cur, e, hgB, hh, hr⟩
  · exact .inl h
  · exact .inr ⟨g, cap, cur, e, hgB, (hb.block g (lt_of_block hh)).trans hh, hr⟩

/-- Bytes that were a string's, just made. -/
theorem ownB_new (w : World) (L : List UInt8) (h : L.length ≤ 1000) : OwnB (Lib.bytesWorld w 5 ⟨L.toArray⟩) w.heap.size (.slice (some ⟨w.heap.size, 0, none⟩) L.length (grownCap w L.length 0 5)) L ∧ Below w.heap.size w (Lib.bytesWorld w 5 ⟨L.toArray⟩) := by
  have hsz : (⟨L.toArray⟩ : ByteArray).size = L.length := by simp [ByteArray.size]
  have hge := grownCap_ge w L.length 0 5
  have hcm : grownCap w L.length 0 5 ≤ maxLen := grownCap_le_maxLen w L.length 0 5 (by unfold maxLen; omega)
  have hcs : (Lib.bytesCells w 5 ⟨L.toArray⟩).size = grownCap w L.length 0 5 := by
    unfold Lib.bytesCells
    rw [hsz]
    simp
    omega
  refine ⟨⟨w.heap.size, _, _, _, rfl, Nat.le_refl _, Lib.bytesWorld_at_new w _ _, .inr (Nat.le_refl _), hge, hcm, hcs, ?_⟩, ?_⟩
  · unfold Lib.bytesCells
    rw [hsz]
    have e : (Array.map (fun b : UInt8 => Value.int .u8 (b.toNat : Int)) L.toArray).toList = Lib.byteCells L := by simp [Lib.byteCells]
    have e2 : L.length = (Lib.byteCells L).length := by simp [Lib.byteCells]
    rw [Array.toList_append, e]
    conv => lhs; rw [e2]
    exact List.take_left
  · exact ⟨rfl, rfl, rfl, by rw [Lib.bytesWorld_size]; omega, fun k hk => Lib.bytesWorld_at_old w _ _ k hk⟩

set_option maxRecDepth 100000 in
set_option maxHeartbeats 4000000 in
theorem written_any (n : Int) (hn : 0 ≤ n ∧ n ≤ 1048576) (ao : Option Addr) (cap : Nat) (qs : List (Int × Int)) (w : World) (hq : HasPrs w ao qs) (hlen : qs.length * 16 ≤ 140737488351232) (ht : Tab w) :
    Calls Tryd.prog 5 #[.int .i64 n, .slice ao qs.length cap] w fun e w' => Below w.heap.size w w' ∧ ∃ vb vf, e = .returned (.tuple #[vb, vf]) ∧
      OwnB w' w.heap.size vb (Pa.body ((n, ((qs.filter (Pa.fitB n)).length : Int)) :: qs.filter (Pa.fitB n))) ∧ OwnPrs w' w.heap.size vf (qs.filter (Pa.fitB n)) := by
  obtain ⟨i0, hi, hz0, hz1, hz2⟩ := info_parts Tryd.infoPr
  have HQ := Nu.hid hq
  have HTAB := Nu.hid ht
  clear hq ht
  go_enter Tryd.func5, Tryd.ntmps5
  go_wp2
  go_loopw [6, 14] (fun vf c wr => ∃ (k : Nat) (fs : List (Int × Int)), k ≤ qs.length ∧ c = .int .i64 k ∧ fs = (qs.take k).filter (Pa.fitB n) ∧ OwnPrs wr w.heap.size vf fs ∧ Below w.heap.size w wr) (fun _ c _ => qs.length - (intOf c).toNat)
  case atStart => exact ⟨0, [], Nat.zero_le _, rfl, by simp, World.ownsRow_nil _ _ _ _, Below.refl _ _⟩
  case round =>
    obtain ⟨k, fs, hk, rfl, hfs, hown, hb⟩ := hrel
    have hbs := hb.size
    have hfl : fs.length ≤ k := by rw [hfs]; exact Nat.le_trans (List.length_filter_le _ _) (by simp; omega)
    by_cases hlt : k < qs.length
    · have hlti : (k : Int) < (qs.length : Int) := by omega
      have hk0 : (0 : Int) ≤ (k : Int) := by omega
      obtain ⟨⟨⟨u0, u1⟩, v0, v1⟩, tb, to, rfl, cu, cv⟩ := (HQ.out.later hb) k qs[k] (by simp [hlt])
      have htb : tb < wr.heap.size := block_lt_of_cell cu
      have hstep : (qs.take (k + 1)).filter (Pa.fitB n) = fs ++ (if Pa.fitB n qs[k] = true then [qs[k]] else []) := by
        rw [List.take_succ_eq_append_getElem hlt, List.filter_append, ← hfs]
        congr 1
        by_cases h : Pa.fitB n qs[k] = true <;> simp [h]
      obtain ⟨q, hqk⟩ : ∃ q, q = qs[k] := ⟨_, rfl⟩
      rw [← hqk] at u0 u1 v0 v1 cu cv hstep
      obtain ⟨u, v⟩ := q
      have HST := Nu.hid hstep
      have HB := Nu.hid hb
      have HOWN := Nu.hid hown
      clear hstep hb hown hfs hqk
      dsimp only at u0 u1 v0 v1 cu cv
      by_cases h1 : 0 ≤ u
      · by_cases h2 : u < n
        · by_cases h3 : 0 ≤ v
          · by_cases h4 : v < n
            · go_wp2_with (at_builtin; refine wpList_append_own _ rfl _ _ 22 rfl w.heap.size 36 i0 (.agg #[.int .i64 0, .int .i64 0]) 2 16 Tryd.underlying22 hi hz0 hz1 hz2 rfl (by decide) _ _ _ rfl (World.ownsRow.alloc (World.ownsRow.alloc HOWN.out _) _) ⟨wr.heap.size + 1, 0, none⟩ 1 1 [.int .i64 u, .int .i64 v] rfl rfl (new_two _ _ (by simp) _ _) (by simp [Value.oneCell']) (by unfold maxLen; omega) (by omega) (by simp; omega) ?_; refine Hid.out ?_)
              refine Nu.hid ?_
              intro vf' w1 hown' hg _
              have HO1 : Hid (OwnPrs w1 w.heap.size vf' (fs ++ [(u, v)])) := by
                unfold OwnPrs
                rw [flatP_snoc, List.length_append]
                exact hown'
              have HB1 := Nu.hid (((HB.out.alloc hbs _).alloc (by simp; omega) _).grown hg (by simp; omega) (fun k hk => (HOWN.out.lt k hk).1))
              clear hown' hg
              go_wp2
              go_roundw
              case rel =>
                refine ⟨k + 1, fs ++ [(u, v)], by omega, by go_num, ?_, HO1.out, HB1.out⟩
                rw [HST.out, if_pos (Pa.fitB_iff.2 ⟨⟨h1, h2⟩, h3, h4⟩)]
              case measure => simp [intOf]; omega
            · go_wp2
              go_roundw
              case rel =>
                refine ⟨k + 1, fs, by omega, by go_num, ?_, World.ownsRow.alloc HOWN.out _, HB.out.alloc hbs _⟩
                rw [HST.out, if_neg (by rw [Pa.fitB_iff]; omega), List.append_nil]
              case measure => simp [intOf]; omega
          · go_wp2
            go_roundw
            case rel =>
              refine ⟨k + 1, fs, by omega, by go_num, ?_, World.ownsRow.alloc HOWN.out _, HB.out.alloc hbs _⟩
              rw [HST.out, if_neg (by rw [Pa.fitB_iff]; omega), List.append_nil]
            case measure => simp [intOf]; omega
        · go_wp2
          go_roundw
          case rel =>
            refine ⟨k + 1, fs, by omega, by go_num, ?_, World.ownsRow.alloc HOWN.out _, HB.out.alloc hbs _⟩
            rw [HST.out, if_neg (by rw [Pa.fitB_iff]; omega), List.append_nil]
          case measure => simp [intOf]; omega
      · go_wp2
        go_roundw
        case rel =>
          refine ⟨k + 1, fs, by omega, by go_num, ?_, World.ownsRow.alloc HOWN.out _, HB.out.alloc hbs _⟩
          rw [HST.out, if_neg (by rw [Pa.fitB_iff]; omega), List.append_nil]
        case measure => simp [intOf]; omega
    · have hd : ¬ ((k : Int) < (qs.length : Int)) := by omega
      have hkn : k = qs.length := by omega
      subst hkn
      rw [List.take_length] at hfs
      have HFS := Nu.hid hfs
      have HB := Nu.hid hb
      have hin : ∀ p ∈ fs, (0 ≤ p.1 ∧ p.1 < n) ∧ 0 ≤ p.2 ∧ p.2 < n := fun p hp => by
        rw [hfs] at hp
        exact Pa.fitB_iff.1 (List.mem_filter.1 hp).2
      have HIN := Nu.hid hin
      have HOWN := Nu.hid hown
      obtain ⟨fa, fc, rfl, hfx⟩ := OwnPrs.at hown
      have HFX : Hid (PairsAt wr (.slice fa fs.length fc) fs) := ⟨fa, fc, rfl, hfx⟩
      clear hfs hb hin hown hfx
      go_wp2_with (go_at_call 7; refine (numline_any _ 2 2 (Pa.two n fs.length) _ (ints_two wr _ rfl n fs.length (by omega) (by omega)) (by decide) (HTAB.out.below (HB.out.alloc hbs _))).mono ?_; rw [Pa.lineTo_two]; rintro e w3 ⟨rfl, hb3⟩; refine Hid.out ?_)
      refine Nu.hid ?_
      have h13 : Below wr.heap.size wr w3 := ((Below.refl _ _).alloc (Nat.le_refl _) _).trans (hb3.mono (by simp))
      have HB3 := Nu.hid (HB.out.trans (h13.mono hbs))
      have hbs3 : w.heap.size ≤ w3.heap.size := HB3.out.size
      have HFX3 := Nu.hid (HFX.out.below h13 (Nat.le_refl _))
      have HOWN3 := Nu.hid (HOWN.out.below h13)
      have hmb : (fs.length : Int) ≤ 9223372036854775807 := by omega
      obtain ⟨L0, hL0⟩ : ∃ L0, L0 = Pa.row (n, (fs.length : Int)) ++ [10] := ⟨_, rfl⟩
      have hL0l : L0.length ≤ 100 := by
        have h1 := Lib.itoa_length_le n (by omega) (by omega)
        have h2 := Lib.itoa_length_le (fs.length : Int) (by omega) hmb
        rw [hL0]
        simp [Pa.row]
        omega
      rw [← hL0]
      have hbody : Pa.body ((n, (fs.length : Int)) :: fs.take 0) = L0 := by rw [hL0]; simp [Pa.body]
      have HBODY := Nu.hid hbody
      have HL0 := Nu.hid hL0
      have kb := Lib.run_convert_string_bytes (P := Tryd.prog) w3 9 24 5 ⟨L0.toArray⟩ Tryd.underlying9 Tryd.underlying24 Tryd.underlying5
      have hsz : (⟨L0.toArray⟩ : ByteArray).size = L0.length := by simp [ByteArray.size]
      rw [hsz] at kb
      clear hsz hb3 h13 hbody hL0
      obtain ⟨ob, hbb⟩ := ownB_new w3 L0 (by omega)
      have HOB := Nu.hid ob
      have HBB := Nu.hid hbb
      clear ob hbb
      go_wp2
      generalize hX : Lib.bytesWorld w3 5 ⟨L0.toArray⟩ = X
      rw [hX] at HOB HBB
      generalize Value.slice (some ⟨w3.heap.size, 0, none⟩) L0.length (grownCap w3 L0.length 0 5) = vb0 at HOB ⊢
      clear hX kb
      go_loopw [9, 51] (fun vb c wr2 => ∃ (k : Nat) (L : List UInt8), k ≤ fs.length ∧ c = .int .i64 k ∧ L = Pa.body ((n, (fs.length : Int)) :: fs.take k) ∧ OwnB wr2 w3.heap.size vb L ∧ Below w3.heap.size w3 wr2) (fun _ c _ => fs.length - (intOf c).toNat)
      case atStart => exact ⟨0, L0, Nat.zero_le _, rfl, HBODY.out.symm, HOB.out, HBB.out⟩
      case round =>
        obtain ⟨k, L, hk, rfl, hL, hob, hb2⟩ := hrel
        have hbs2 := hb2.size
        have HL := Nu.hid hL
        have HOB2 := Nu.hid hob
        have HB2 := Nu.hid hb2
        by_cases hlt : k < fs.length
        · have hlti : (k : Int) < (fs.length : Int) := by omega
          have hk0 : (0 : Int) ≤ (k : Int) := by omega
          obtain ⟨fa', fc', efa, hfx⟩ := HFX3.out.below hb2 (Nat.le_refl _)
          cases efa
          obtain ⟨P, rfl, a0, a1⟩ := hfx k fs[k] (by simp [hlt])
          have hP : P < wr.heap.size := block_lt_of_cell a0
          have hp := HIN.out fs[k] (List.getElem_mem hlt)
          have hbt := Pa.body_take (n, (fs.length : Int)) fs k hlt
          have hLb : L.length ≤ L0.length + 16 * k := by
            rw [hL, HL0.out]
            have := Pa.body_bound (hd := (n, (fs.length : Int))) (fit := fs.take k) (fun p hp => by have := HIN.out p (List.mem_of_mem_take hp); omega)
            rw [List.length_take] at this
            omega
          have hSb : (Pa.row fs[k] ++ [10]).length ≤ 16 := Pa.row_small (by omega)
          obtain ⟨p, hpk⟩ : ∃ p, p = fs[k] := ⟨_, rfl⟩
          rw [← hpk] at a0 a1 hp hbt hSb
          obtain ⟨S, hS⟩ : ∃ S, S = Pa.row p ++ [10] := ⟨_, rfl⟩
          rw [← hS] at hbt hSb
          have HBT := Nu.hid hbt
          have HS := Nu.hid hS
          have htab2 := HTAB.out.below (HB3.out.trans (hb2.mono hbs3))
          have HTAB2 := Nu.hid htab2
          clear hbt hS hL hob hb2 hpk hfx htab2
          obtain ⟨u, v⟩ := p
          dsimp only at a0 a1 hp
          go_wp2_with (go_at_call 7; refine (numline_any _ 2 2 (Pa.two u v) _ (ints_two _ _ (by simp) u v (by omega) (by omega)) (by decide) (HTAB2.out.below (((Below.refl _ _).alloc (Nat.le_refl _) _).alloc (by simp) _))).mono ?_; rw [Pa.lineTo_two, ← HS.out]; rintro e w5 ⟨rfl, hb5⟩; have h25 : Below wr.heap.size wr w5 := (((Below.refl _ _).alloc (Nat.le_refl _) _).alloc (by simp) _).trans (hb5.mono (by simp; omega)); have hs5 : wr.heap.size ≤ w5.heap.size := h25.size; have OB5 := Nu.hid (HOB2.out.below h25 (Nat.le_refl _)); have H25 := Nu.hid h25; clear hb5 h25; refine Hid.out ?_)
          refine Nu.hid ?_
          have hls : L.length + S.length ≤ 140737488355328 := by omega
          have hb5 : w3.heap.size ≤ w5.heap.size := by omega
          go_wp2_with (at_builtin; refine wpList_append_B rfl _ _ rfl w5 w3.heap.size u9 L S rfl rfl OB5.out hls hb5 ?_; refine Hid.out ?_)
          refine Nu.hid ?_
          intro vb' w6 hob6 hg6
          have HOB6 := Nu.hid hob6
          have HB6 := Nu.hid ((HB2.out.trans (H25.out.mono hbs2)).grown hg6 (by omega) (fun q hq => by
            obtain ⟨g, cap, e, _, hB, _⟩ := OB5.out.cells
            rw [e] at hq
            simp [Value.ownBlock] at hq
            omega))
          clear hob6 hg6
          go_wp2
          go_roundw
          case rel => exact ⟨k + 1, L ++ S, by omega, by go_num, by rw [HBT.out, HL.out], HOB6.out, HB6.out⟩
          case measure => simp [intOf]; omega
        · have hd2 : ¬ ((k : Int) < (fs.length : Int)) := by omega
          have hkf : k = fs.length := by omega
          subst hkf
          rw [List.take_length] at hL
          have HL' := Nu.hid hL
          have HOF := Nu.hid (HOWN3.out.below hb2)
          clear hL hob hb2
          go_wp2
          go_ret2
          refine ⟨HB3.out.trans (HB2.out.mono hbs3), _, _, rfl, ?_, ?_⟩
          · rw [← HFS.out, ← HL'.out]
            obtain ⟨g, cap, cur, fz, e, hB, hr⟩ := HOB2.out
            exact ⟨g, cap, cur, fz, e, by omega, hr⟩
          · rw [← HFS.out]
            exact HOF.out

end Go.Proofs.YtkjmnfhpikoaaaaDoor
