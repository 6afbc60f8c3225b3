/-
  Proved: for every graph, number and edge the law EditBack answers true, and what is handed in reads afterwards as before. No condition.
-/
import Derived.Test.YtdkckdbpbdhoaaaEdLw
import Derived.Test.YtdkckdbpbdhoaaaEdF
import Derived.Test.YtdkckdbpbdhoaaaSiEq
import Derived.Test.YtdkckdbpbdhoaaaEdW2
import Derived.Test.YtdkckdbpbdhoaaaEdW3
import Derived.Test.YtdkckdbpbdhoaaaEdW4
import Derived.Test.YtdkckdbpbdhoaaaEdW8
import Derived.Test.YtdkckdbpbdhoaaaSiRValid
import Derived.Test.YtdkckdbpbdhoaaaSiGin
import Derived.Deep.CutRange
namespace Go.Proofs.Ytdkckdbpbdhoaaa
open Go.ChangeShapes Go.WideShapes Go.ChangeAt Go.RowKit

/-- The graph and the edge that came in lie in their boxes. -/
structure Two (w : World) (n : Int) (ao : Option Addr) (ca : Nat) (es : List (Int × Int)) (x1 x2 : Int) (W : World) : Prop where
  low : Below w.heap.size w W
  box : W.heap[w.heap.size]? = some (.cells #[.int .i64 n, .slice ao es.length ca] 24 (0, 0))
  edge : W.heap[w.heap.size + 1]? = some (.cells #[.int .i64 x1, .int .i64 x2] 26 (0, 0))
theorem Two.later {w W W' : World} {n : Int} {ao : Option Addr} {ca : Nat} {es : List (Int × Int)} {x1 x2 : Int} (h : Two w n ao ca es x1 x2 W) (hb : Below W.heap.size W W') : Two w n ao ca es x1 x2 W' := ⟨h.low.trans (hb.mono h.low.size), blk_later h.box hb, blk_later h.edge hb⟩

namespace lawEK

set_option maxRecDepth 100000 in
set_option maxHeartbeats 16000000 in
theorem walk (n : Int) (ao : Option Addr) (ca : Nat) (es : List (Int × Int)) (k : Int) (x : Int × Int) (w : World) (_ : -9223372036854775808 ≤ n ∧ n ≤ 9223372036854775807) (hq : PairsIn w ao es.length ca es) (hle : es.length * 16 ≤ 140737488351232) (_ : (Lit.int .i64 k).wf = true) (_ : In64 x) :
    Calls Try.prog 6 #[.agg #[.int .i64 n, .slice ao es.length ca], .int .i64 k, edgeVal x] w fun e w' => e = .returned (.bool true) ∧ Below w.heap.size w w' := by
  obtain ⟨x1, x2⟩ := x
  unfold edgeVal
  have hat := hq.hat
  have HAT := Nu.hid hat
  have HVA : Hid (∀ W, Below w.heap.size w W → Calls Try.prog 33 #[.agg #[.int .i64 n, .slice ao es.length ca]] W fun e w' => e = .returned (.bool (Si.valid n es)) ∧ Below W.heap.size W w') := fun W hb => rvalid_any n ao ca es W (hat.later hb) (by omega)
  have HAP : Hid (∀ W, Below w.heap.size w W → Calls Try.prog 17 #[.agg #[.int .i64 n, .slice ao es.length ca]] W (AnsP (Ed.apex n es) W)) := fun W hb => eapex_any n ao ca es W (hat.later hb) (by omega)
  have HWI : Hid (∀ W, Below w.heap.size w W → Calls Try.prog 13 #[.agg #[.int .i64 n, .slice ao es.length ca], .agg #[.int .i64 x1, .int .i64 x2]] W (AnsP (Ed.withE n es (x1, x2)) W)) := fun W hb => ewith_any n (x1, x2) ao ca es W (hat.later hb) (by omega)
  have HWO : Hid (∀ W, Below w.heap.size w W → Calls Try.prog 10 #[.agg #[.int .i64 n, .slice ao es.length ca], .int .i64 k] W (AnsP (Ed.without n es k) W)) := fun W hb => ewithout_any n k ao ca es W (hat.later hb) (by omega)
  have HDV : Hid (∀ W, Below w.heap.size w W → Calls Try.prog 15 #[.agg #[.int .i64 n, .slice ao es.length ca], .int .i64 k] W (AnsP (Ed.divide n es k) W)) := fun W hb => edivide_any n k ao ca es W (hat.later hb) (by omega)
  have HT0 : Hid (Two w n ao ca es x1 x2 ((w.alloc (.cells #[.int .i64 n, .slice ao es.length ca] 24)).alloc (.cells #[.int .i64 x1, .int .i64 x2] 26))) := ⟨((Below.refl _ _).alloc (Nat.le_refl _) _).alloc (by simp) _, blk_alloc (heap_alloc_new w _) _, heap_new1 w _ _⟩
  clear hq hat hle
  cases hv : Si.valid n es with
  | false =>
    rw [hv] at HVA
    have hap : Ed.apex n es = (0, [], 1) := by unfold Ed.apex; rw [if_pos hv]
    rw [hap] at HAP
    clear hv hap
    go_enter Try.func6, Try.ntmps6
    go_wp2_with (go_at_call 9; refine (fixed14_any _).mono ?_; rintro e w1 ⟨rfl, hb⟩; refine Hid.out ?_)
    refine Nu.hid ?_
    have HT := Nu.hid (HT0.out.later hb)
    clear hb
    obtain ⟨g0, g1, -⟩ := pair_cells HT.out.box
    go_wp2_with (go_at_call 33; refine (HVA.out _ HT.out.low).mono ?_; rintro e w2 ⟨rfl, hb⟩; refine Hid.out ?_)
    refine Nu.hid ?_
    have HT := Nu.hid (HT.out.later hb)
    clear hb g0 g1
    obtain ⟨g0, g1, -⟩ := pair_cells HT.out.box
    go_wp2_with (go_at_call 17; refine (HAP.out _ HT.out.low).mono ?_; rintro e w3 ⟨v, rfl, ho, hb⟩; refine Hid.out ?_)
    refine Nu.hid ?_
    have HT := Nu.hid (HT.out.later hb)
    obtain ⟨va, vc, rfl, -, -, -, -⟩ := ho.form
    clear hb ho g0 g1
    go_wp2
    go_ret
    exact ⟨rfl, HT.out.low.alloc HT.out.low.size _⟩
  | true =>
    rw [hv] at HVA
    have hval := Si.valid_iff.1 hv
    have hfew := hval.few
    have hlo := hval.lo
    have hhi := hval.hi
    have HVAL := Nu.hid hval
    obtain ⟨m, rfl⟩ : ∃ m : Nat, n = (m : Int) := ⟨n.toNat, by omega⟩
    have hm20 : m ≤ 1048576 := by omega
    have hm22 : m ≤ 4194304 := by omega
    have HF0 : Hid (∀ (m : Nat) W, m ≤ 4194304 → Calls Try.prog 31 #[.int .i64 0, .int .i64 (m : Int)] W fun e w' => ∃ A c, e = .returned (.slice A m c) ∧ OwnZ w' W.heap.size (.slice A m c) (Ed.fr 0 m) ∧ Below W.heap.size W w') := fun m W h2 => from_any 0 m W (by omega) h2
    clear hv hval hlo hhi
    go_enter Try.func6, Try.ntmps6
    go_wp2_with (go_at_call 9; refine (fixed14_any _).mono ?_; rintro e w1 ⟨rfl, hb⟩; refine Hid.out ?_)
    refine Nu.hid ?_
    have HT := Nu.hid (HT0.out.later hb)
    clear hb HT0
    obtain ⟨g0, g1, -⟩ := pair_cells HT.out.box
    go_wp2_with (go_at_call 33; refine (HVA.out _ HT.out.low).mono ?_; rintro e w2 ⟨rfl, hb⟩; refine Hid.out ?_)
    refine Nu.hid ?_
    have HT := Nu.hid (HT.out.later hb)
    clear hb g0 g1
    obtain ⟨g0, g1, -⟩ := pair_cells HT.out.box
    go_upto_region 6 with fail
    go_cut [49] from 41 to 50 (fun c wr => (∃ b : Bool, c = .bool b ∧ (b = true ↔ 0 ≤ k ∧ k < (es.length : Int))) ∧ Two w (m : Int) ao ca es x1 x2 wr)
    case first =>
      have hsg := lt_of_block HT.out.box
      by_cases h1 : 0 ≤ k
      · by_cases h2 : k < (es.length : Int)
        · go_wp2
          go_meet
          exact ⟨⟨_, rfl, ⟨fun _ => ⟨h1, h2⟩, fun _ => rfl⟩⟩, HT.out⟩
        · go_wp2
          go_meet
          exact ⟨⟨_, rfl, ⟨fun h => (by cases h), fun h => (by omega)⟩⟩, HT.out⟩
      · go_wp2
        go_meet
        exact ⟨⟨_, rfl, ⟨fun h => (by cases h), fun h => (by omega)⟩⟩, HT.out⟩
    case rest =>
    obtain ⟨⟨bA, rfl, hbA⟩, hT⟩ := hcut
    have HBA := Nu.hid hbA
    have HT := Nu.hid hT
    clear hbA hT g0 g1
    obtain ⟨w3, rfl⟩ : ∃ w3, w3 = wc := ⟨wc, rfl⟩
    go_upto_if 49 with fail
    go_cut [9] from 10 to 161 (fun _ wr => Two w (m : Int) ao ca es x1 x2 wr)
    case first =>
      cases bA with
      | false =>
        go_wp2
        go_meet
        exact HT.out
      | true =>
        obtain ⟨h0, h1⟩ := HBA.out.1 rfl
        obtain ⟨kk, rfl⟩ : ∃ kk : Nat, k = (kk : Int) := ⟨k.toNat, by omega⟩
        have hkk : kk < es.length := by omega
        obtain ⟨⟨u, v⟩, hx⟩ : ∃ x, es[kk]? = some x := ⟨_, List.getElem?_eq_getElem hkk⟩
        obtain ⟨b, o, rfl, hcc, -⟩ := HAT.out kk _ hx
        have hbw : b < w.heap.size := block_lt_of_cell hcc
        have HC : Hid (∀ W, Below w.heap.size w W → W.cell? ⟨b, o + kk * 2, none⟩ = some (.int .i64 u) ∧ W.cell? ⟨b, o + kk * 2 + 1, none⟩ = some (.int .i64 v)) := fun W hb => by
          obtain ⟨b', o', e', c0, c1⟩ := (HAT.out.later hb) kk _ hx
          cases e'
          exact ⟨c0, c1⟩
        obtain ⟨er, her⟩ : ∃ er, es.eraseIdx kk = er := ⟨_, rfl⟩
        have hel : er.length = es.length - 1 := by rw [← her]; exact Ed.erase_len hkk
        have HWW : Hid (∀ W A C, EdgesAt W A er → Calls Try.prog 13 #[.agg #[.int .i64 (m : Int), .slice A er.length C], .agg #[.int .i64 u, .int .i64 v]] W (AnsP ((m : Int), es, 0) W)) := fun W A C h => by
          have := ewith_any (m : Int) (u, v) A C er W h (by omega)
          rw [← her, Ed.with_erase HVAL.out hx, her] at this
          exact this
        rw [Ed.without_yes HVAL.out hkk, her] at HWO
        have HDB : Hid ((m : Int) < 1048576 → es.length < 4194304 → Ed.divide (m : Int) es (kk : Int) = ((m : Int) + 1, Si.put (Si.put er (u, (m : Int))) (v, (m : Int)), 0) ∧ (Si.put (Si.put er (u, (m : Int))) (v, (m : Int))).length = es.length + 1 ∧ Ed.induced ((m : Int) + 1) (Si.put (Si.put er (u, (m : Int))) (v, (m : Int))) (Ed.fr 0 m) = ((m : Int), er, 0)) := fun g1 g2 => by
          have e1 := Ed.divide_yes HVAL.out hx g1 g2
          have e2 := Ed.divide_len HVAL.out hx
          have e3 := Ed.divide_back HVAL.out hx g1 g2
          rw [her] at e1 e2 e3
          exact ⟨e1, e2, e3⟩
        have HEL := Nu.hid hel
        clear hx hcc her hel HBA
        obtain ⟨g0, g1, -⟩ := pair_cells HT.out.box
        go_wp2_with (go_at_call 10; refine (HWO.out _ HT.out.low).mono ?_; rintro e w13 ⟨vv, rfl, ho, hb⟩; refine Hid.out ?_)
        refine Nu.hid ?_
        have HT := Nu.hid (HT.out.later hb)
        obtain ⟨pa, pc, rfl, -, -, -, -⟩ := ho.form
        try dsimp only at ho
        try dsimp only
        have HGA := Nu.hid (Got.new (n := (m : Int)) ho)
        clear hb ho g0 g1
        go_upto_region 8 with fail
        have hbz : Below w13.heap.size w13 (w13.alloc (.cells #[.int .i64 (m : Int), .slice pa er.length pc] 24)) := (Below.refl _ _).alloc (Nat.le_refl _) _
        have HT := Nu.hid (HT.out.later hbz)
        clear hbz
        obtain ⟨HA, hHA⟩ : ∃ HA, HA = w13.heap.size := ⟨_, rfl⟩
        rw [← hHA] at HGA ⊢
        generalize w13.alloc (.cells #[.int .i64 (m : Int), .slice pa er.length pc] 24) = w14 at HT HGA ⊢
        clear hHA
        have hsg := lt_of_block HT.out.box
        have hpl := HGA.out.lt
        go_cut [11, 12] from 56 to 66 (fun p q wr => ∃ (H : Nat) (va : Option Addr) (vc : Nat), p = .pointer (some ⟨H, 0, none⟩) ∧ q = .int .i64 0 ∧ Got wr H (m : Int) es va vc ∧ Below w14.heap.size w14 wr)
        case first =>
          have HGZ : Hid (∀ V, Below w14.heap.size w14 V → V.cell? ⟨w.heap.size, 1, none⟩ = some (.slice (some ⟨b, o, none⟩) es.length ca) ∧ V.cell? ⟨HA, 0, none⟩ = some (.int .i64 (m : Int)) ∧ V.cell? ⟨HA, 1, none⟩ = some (.slice pa er.length pc) ∧ V.cell? ⟨b, o + kk * 2, none⟩ = some (.int .i64 u) ∧ V.cell? ⟨b, o + kk * 2 + 1, none⟩ = some (.int .i64 v)) := fun V hb => ⟨(pair_cells (blk_later HT.out.box hb)).2.1, (HGA.out.later hb).cells.1, (HGA.out.later hb).cells.2, (HC.out V (HT.out.low.trans (hb.mono HT.out.low.size))).1, (HC.out V (HT.out.low.trans (hb.mono HT.out.low.size))).2⟩
          have hSz := HGZ.out _ (Below.refl _ _)
          try dsimp only at hSz
          go_wp2_with fail
          go_region_held3 (fun w' => w'.cell? ⟨w.heap.size, 1, none⟩ = some (.slice (some ⟨b, o, none⟩) es.length ca) ∧ w'.cell? ⟨HA, 0, none⟩ = some (.int .i64 (m : Int)) ∧ w'.cell? ⟨HA, 1, none⟩ = some (.slice pa er.length pc) ∧ w'.cell? ⟨b, o + kk * 2, none⟩ = some (.int .i64 u) ∧ w'.cell? ⟨b, o + kk * 2 + 1, none⟩ = some (.int .i64 v))
            (first | exact hSz | exact HGZ.out _ (by repeat (first | exact Below.refl _ _ | exact hb0 | refine Below.drew ?_ | refine Below.setCell ?_ (by first | (simp; done) | (simp; omega) | omega) _ | refine Below.alloc ?_ (by first | exact Nat.le_refl _ | (simp; done) | (simp; omega) | omega) _)))
            (first
              | (go_at_call 13; refine (HWW.out _ _ _ (HGA.out.ed.later (by repeat (first | exact Below.refl _ _ | refine Below.drew ?_ | refine Below.alloc ?_ (by first | exact Nat.le_refl _ | (simp; done) | (simp; omega)) _)))).mono ?_; rintro e w8_0 ⟨vv, rfl, hoL, hbx0⟩; have hb0 : Below w14.heap.size w14 w8_0 := Below.trans (by repeat (first | exact Below.refl _ _ | refine Below.drew ?_ | refine Below.alloc ?_ (by first | exact Nat.le_refl _ | (simp; done) | (simp; omega)) _)) (hbx0.mono (by simp)); have hsz0 : w14.heap.size ≤ w8_0.heap.size := hb0.size; (try have bx0_0 : w8_0.heap[w14.heap.size]? = some (.cells #[.int .i64 0, .slice none 0 0] 24 (0, 0)) := blk_later (heap_new_drew w14 _) hbx0); obtain ⟨va, vc, rfl, -, -, -, -⟩ := hoL.form; (try have q0_0 := (pair_cells bx0_0).1); (try have q0_1 := (pair_cells bx0_0).2.1); (try have q0_2 := (pair_cells bx0_0).2.2 0); (try have q0_3 := (pair_cells bx0_0).2.2 1)))
          all_goals
            go_wp2
            go_meet
            first
              | exact ⟨_, _, _, rfl, rfl, Got.new hoL, hb0.alloc hsz0 _⟩
              | exact ⟨_, _, _, rfl, rfl, Got.set bx0_0 hoL (by simp), (hb0.setCell (p := ⟨w14.heap.size, 0, none⟩) (Nat.le_refl _) _).setCell (p := ⟨w14.heap.size, 1, none⟩) (Nat.le_refl _) _⟩
        case rest =>
        obtain ⟨HBb, ba, bc, rfl, rfl, hgb, hb⟩ := hcut
        have HGB := Nu.hid hgb
        have HGA := Nu.hid (HGA.out.later hb)
        have HT := Nu.hid (HT.out.later hb)
        clear hb hgb hsg hpl
        obtain ⟨w15, rfl⟩ : ∃ w15, w15 = wc := ⟨wc, rfl⟩
        obtain ⟨g0, g1, -⟩ := pair_cells HT.out.box
        obtain ⟨a0, a1⟩ := HGA.out.cells
        obtain ⟨b0, b1⟩ := HGB.out.cells
        have hsg := lt_of_block HT.out.box
        have hal := HGA.out.lt
        have hbl := HGB.out.lt
        have hs1 : IntKind.i64.wrap ((es.length : Int) - 1) = (er.length : Int) := by rw [wrap_small _ (by omega) (by omega)]; have := HEL.out; omega
        have hll : ((er.length : Int) != (er.length : Int)) = false := by simp
        have HS := Nu.hid (same_true (m : Int) ba (some ⟨b, o, none⟩) bc ca es w15 HGB.out.ed (HAT.out.later HT.out.low) HGB.out.few)
        go_wp2_with (go_at_call 32; refine HS.out.mono ?_; rintro e w16 ⟨rfl, hb⟩; refine Hid.out ?_)
        refine Nu.hid ?_
        have HGA := Nu.hid (HGA.out.later hb)
        have HT := Nu.hid (HT.out.later hb)
        clear hb g0 g1 a0 a1 b0 b1 hsg hal hbl HGB HS hs1 hll
        obtain ⟨g0, g1, -⟩ := pair_cells HT.out.box
        have hsg := lt_of_block HT.out.box
        by_cases hn1 : (m : Int) < 1048576
        · by_cases hn2 : (es.length : Int) < 4194304
          · obtain ⟨e1, e2, e3⟩ := HDB.out hn1 (by omega)
            obtain ⟨LD, hLD⟩ : ∃ LD, Si.put (Si.put er (u, (m : Int))) (v, (m : Int)) = LD := ⟨_, rfl⟩
            rw [hLD] at e1 e2 e3
            rw [e1] at HDV
            have HIN : Hid (∀ W A C, EdgesAt W A LD → ∀ lo lc, IntsAt W lo (Ed.fr 0 m) → Calls Try.prog 24 #[.agg #[.int .i64 ((m : Int) + 1), .slice A LD.length C], .slice lo m lc] W (AnsP ((m : Int), er, 0) W)) := fun W A C h lo lc hi => by
              have := einduced_any ((m : Int) + 1) lo m lc (Ed.fr 0 m) A C LD W h (by omega) (Ed.fr_length 0 m) hi (by omega)
              rw [e3] at this
              exact this
            have HLEN := Nu.hid e2
            clear e1 e2 e3 hLD HDB
            go_wp2_with (go_at_call 15; refine (HDV.out _ HT.out.low).mono ?_; rintro e w17 ⟨vv, rfl, ho, hb⟩; refine Hid.out ?_)
            refine Nu.hid ?_
            have HGA := Nu.hid (HGA.out.later hb)
            have HT := Nu.hid (HT.out.later hb)
            obtain ⟨da, dc, rfl, -, -, -, -⟩ := ho.form
            try dsimp only at ho
            try dsimp only
            have HGD := Nu.hid (Got.new (n := (m : Int) + 1) ho)
            clear hb ho g0 g1 hsg
            go_upto_region 13 with fail
            have hbz : Below w17.heap.size w17 (w17.alloc (.cells #[.int .i64 ((m : Int) + 1), .slice da LD.length dc] 24)) := (Below.refl _ _).alloc (Nat.le_refl _) _
            have HT := Nu.hid (HT.out.later hbz)
            have HGA := Nu.hid (HGA.out.later hbz)
            clear hbz
            obtain ⟨HD, hHD⟩ : ∃ HD, HD = w17.heap.size := ⟨_, rfl⟩
            rw [← hHD] at HGD ⊢
            generalize w17.alloc (.cells #[.int .i64 ((m : Int) + 1), .slice da LD.length dc] 24) = w18 at HT HGA HGD ⊢
            clear hHD
            have hsg := lt_of_block HT.out.box
            have hpl := HGD.out.lt
            go_cut [15, 16] from 103 to 111 (fun p q wr => ∃ (H : Nat) (va : Option Addr) (vc : Nat), p = .pointer (some ⟨H, 0, none⟩) ∧ q = .int .i64 0 ∧ Got wr H (m : Int) er va vc ∧ Below w18.heap.size w18 wr)
            case first =>
              have HGZ : Hid (∀ V, Below w18.heap.size w18 V → V.cell? ⟨w.heap.size, 0, none⟩ = some (.int .i64 (m : Int)) ∧ V.cell? ⟨HD, 0, none⟩ = some (.int .i64 ((m : Int) + 1)) ∧ V.cell? ⟨HD, 1, none⟩ = some (.slice da LD.length dc)) := fun V hb => ⟨(pair_cells (blk_later HT.out.box hb)).1, (HGD.out.later hb).cells.1, (HGD.out.later hb).cells.2⟩
              have hSz := HGZ.out _ (Below.refl _ _)
              try dsimp only at hSz
              go_wp2_with fail
              go_region_held3 (fun w' => w'.cell? ⟨w.heap.size, 0, none⟩ = some (.int .i64 (m : Int)) ∧ w'.cell? ⟨HD, 0, none⟩ = some (.int .i64 ((m : Int) + 1)) ∧ w'.cell? ⟨HD, 1, none⟩ = some (.slice da LD.length dc))
                (first | exact hSz | exact HGZ.out _ (by repeat (first | exact Below.refl _ _ | exact hb1 | exact hb0 | refine Below.drew ?_ | refine Below.setCell ?_ (by first | (simp; done) | (simp; omega) | omega) _ | refine Below.alloc ?_ (by first | exact Nat.le_refl _ | (simp; done) | (simp; omega) | omega) _)))
                (first
                  | (go_at_call 31; refine (HF0.out _ _ hm22).mono ?_; rintro e w13_0 ⟨fa, fc, rfl, hoF, hbx0⟩; have hb0 : Below w18.heap.size w18 w13_0 := Below.trans (by repeat (first | exact Below.refl _ _ | refine Below.drew ?_ | refine Below.alloc ?_ (by first | exact Nat.le_refl _ | (simp; done) | (simp; omega)) _)) (hbx0.mono (by simp)); have hsz0 : w18.heap.size ≤ w13_0.heap.size := hb0.size; (try have bx0_0 : w13_0.heap[w18.heap.size]? = some (.cells #[.int .i64 0, .slice none 0 0] 24 (0, 0)) := blk_later (heap_new_drew w18 _) hbx0))
                  | (go_at_call 24; refine (HIN.out _ _ _ (HGD.out.ed.later (by repeat (first | exact hb0 | refine Below.alloc ?_ (by first | exact hsz0 | (simp; omega) | omega) _))) _ _ (by first | exact ownz_at hoF | exact (ownz_at hoF).later ((Below.refl _ _).alloc (Nat.le_refl _) _))).mono ?_; rintro e w13_1 ⟨v, rfl, hoL, hbx1⟩; have hb1 : Below w18.heap.size w18 w13_1 := Below.trans (by repeat (first | exact hb0 | refine Below.alloc ?_ (by first | exact hsz0 | (simp; omega) | omega) _)) (hbx1.mono (by first | exact hsz0 | (simp; omega) | omega)); have hsz1 : w18.heap.size ≤ w13_1.heap.size := hb1.size; (try have bx0_1 : w13_1.heap[w18.heap.size]? = some (.cells #[.int .i64 0, .slice none 0 0] 24 (0, 0)) := blk_later (bx0_0) hbx1); (try have bx1_1 : w13_1.heap[w13_0.heap.size]? = some (.cells #[.int .i64 0, .slice none 0 0] 24 (0, 0)) := blk_later (heap_alloc_new w13_0 _) hbx1); obtain ⟨va, vc, rfl, -, -, -, -⟩ := hoL.form; (try have q0_0 := (pair_cells bx0_1).1); (try have q0_1 := (pair_cells bx0_1).2.1); (try have q0_2 := (pair_cells bx0_1).2.2 0); (try have q0_3 := (pair_cells bx0_1).2.2 1); (try have q1_0 := (pair_cells bx1_1).1); (try have q1_1 := (pair_cells bx1_1).2.1); (try have q1_2 := (pair_cells bx1_1).2.2 0); (try have q1_3 := (pair_cells bx1_1).2.2 1)))
              all_goals
                go_wp2
                go_meet
                first
                  | exact ⟨_, _, _, rfl, rfl, Got.new hoL, hb1.alloc hsz1 _⟩
                  | exact ⟨_, _, _, rfl, rfl, Got.set bx1_1 hoL (by simp), (hb1.setCell (p := ⟨w13_0.heap.size, 0, none⟩) hsz0 _).setCell (p := ⟨w13_0.heap.size, 1, none⟩) hsz0 _⟩
                  | exact ⟨_, _, _, rfl, rfl, Got.set bx0_1 hoL (lt_of_block bx0_0), (hb1.setCell (p := ⟨w18.heap.size, 0, none⟩) (Nat.le_refl _) _).setCell (p := ⟨w18.heap.size, 1, none⟩) (Nat.le_refl _) _⟩
            case rest =>
            obtain ⟨HI, ia, ic, rfl, rfl, hgi, hb⟩ := hcut
            have HGI := Nu.hid hgi
            have HGA := Nu.hid (HGA.out.later hb)
            have HGD := Nu.hid (HGD.out.later hb)
            have HT := Nu.hid (HT.out.later hb)
            clear hb hgi hsg hpl
            obtain ⟨w19, rfl⟩ : ∃ w19, w19 = wc := ⟨wc, rfl⟩
            have hsg := lt_of_block HT.out.box
            have hpl := HGI.out.lt
            go_upto_region 14 with fail
            go_cut [17, 18] from 111 to 121 (fun p q wr => ∃ (H : Nat) (va : Option Addr) (vc : Nat), p = .pointer (some ⟨H, 0, none⟩) ∧ q = .int .i64 0 ∧ Got wr H (m : Int) es va vc ∧ Below w19.heap.size w19 wr)
            case first =>
              have HGZ : Hid (∀ V, Below w19.heap.size w19 V → V.cell? ⟨w.heap.size, 1, none⟩ = some (.slice (some ⟨b, o, none⟩) es.length ca) ∧ V.cell? ⟨HI, 0, none⟩ = some (.int .i64 (m : Int)) ∧ V.cell? ⟨HI, 1, none⟩ = some (.slice ia er.length ic) ∧ V.cell? ⟨b, o + kk * 2, none⟩ = some (.int .i64 u) ∧ V.cell? ⟨b, o + kk * 2 + 1, none⟩ = some (.int .i64 v)) := fun V hb => ⟨(pair_cells (blk_later HT.out.box hb)).2.1, (HGI.out.later hb).cells.1, (HGI.out.later hb).cells.2, (HC.out V (HT.out.low.trans (hb.mono HT.out.low.size))).1, (HC.out V (HT.out.low.trans (hb.mono HT.out.low.size))).2⟩
              have hSz := HGZ.out _ (Below.refl _ _)
              try dsimp only at hSz
              go_wp2_with fail
              go_region_held3 (fun w' => w'.cell? ⟨w.heap.size, 1, none⟩ = some (.slice (some ⟨b, o, none⟩) es.length ca) ∧ w'.cell? ⟨HI, 0, none⟩ = some (.int .i64 (m : Int)) ∧ w'.cell? ⟨HI, 1, none⟩ = some (.slice ia er.length ic) ∧ w'.cell? ⟨b, o + kk * 2, none⟩ = some (.int .i64 u) ∧ w'.cell? ⟨b, o + kk * 2 + 1, none⟩ = some (.int .i64 v))
                (first | exact hSz | exact HGZ.out _ (by repeat (first | exact Below.refl _ _ | exact hb0 | refine Below.drew ?_ | refine Below.setCell ?_ (by first | (simp; done) | (simp; omega) | omega) _ | refine Below.alloc ?_ (by first | exact Nat.le_refl _ | (simp; done) | (simp; omega) | omega) _)))
                (first
                  | (go_at_call 13; refine (HWW.out _ _ _ (HGI.out.ed.later (by repeat (first | exact Below.refl _ _ | refine Below.drew ?_ | refine Below.alloc ?_ (by first | exact Nat.le_refl _ | (simp; done) | (simp; omega)) _)))).mono ?_; rintro e w14_0 ⟨vv, rfl, hoL, hbx0⟩; have hb0 : Below w19.heap.size w19 w14_0 := Below.trans (by repeat (first | exact Below.refl _ _ | refine Below.drew ?_ | refine Below.alloc ?_ (by first | exact Nat.le_refl _ | (simp; done) | (simp; omega)) _)) (hbx0.mono (by simp)); have hsz0 : w19.heap.size ≤ w14_0.heap.size := hb0.size; (try have bx0_0 : w14_0.heap[w19.heap.size]? = some (.cells #[.int .i64 0, .slice none 0 0] 24 (0, 0)) := blk_later (heap_new_drew w19 _) hbx0); obtain ⟨va, vc, rfl, -, -, -, -⟩ := hoL.form; (try have q0_0 := (pair_cells bx0_0).1); (try have q0_1 := (pair_cells bx0_0).2.1); (try have q0_2 := (pair_cells bx0_0).2.2 0); (try have q0_3 := (pair_cells bx0_0).2.2 1)))
              all_goals
                go_wp2
                go_meet
                first
                  | exact ⟨_, _, _, rfl, rfl, Got.new hoL, hb0.alloc hsz0 _⟩
                  | exact ⟨_, _, _, rfl, rfl, Got.set bx0_0 hoL (by simp), (hb0.setCell (p := ⟨w19.heap.size, 0, none⟩) (Nat.le_refl _) _).setCell (p := ⟨w19.heap.size, 1, none⟩) (Nat.le_refl _) _⟩
            case rest =>
            obtain ⟨HK, ka, kc, rfl, rfl, hgk, hb⟩ := hcut
            have HGK := Nu.hid hgk
            have HGI := Nu.hid (HGI.out.later hb)
            have HGA := Nu.hid (HGA.out.later hb)
            have HGD := Nu.hid (HGD.out.later hb)
            have HT := Nu.hid (HT.out.later hb)
            clear hb hgk hsg hpl
            obtain ⟨w20, rfl⟩ : ∃ w20, w20 = wc := ⟨wc, rfl⟩
            obtain ⟨g0, g1, -⟩ := pair_cells HT.out.box
            obtain ⟨a0, a1⟩ := HGA.out.cells
            obtain ⟨d0, d1⟩ := HGD.out.cells
            obtain ⟨i0, i1⟩ := HGI.out.cells
            obtain ⟨k0, k1⟩ := HGK.out.cells
            have hsg := lt_of_block HT.out.box
            have hal := HGA.out.lt
            have hdl := HGD.out.lt
            have hil := HGI.out.lt
            have hkl := HGK.out.lt
            have hs1 : IntKind.i64.wrap ((m : Int) + 1) = (m : Int) + 1 := wrap_small _ (by omega) (by omega)
            have hs2 : IntKind.i64.wrap ((es.length : Int) + 1) = (LD.length : Int) := by rw [wrap_small _ (by omega) (by omega)]; have := HLEN.out; omega
            have hll : ((LD.length : Int) != (LD.length : Int)) = false := by simp
            have hmm : (((m : Int) + 1) != ((m : Int) + 1)) = false := by simp
            have HS1 := Nu.hid (same_true (m : Int) ka (some ⟨b, o, none⟩) kc ca es w20 HGK.out.ed (HAT.out.later HT.out.low) HGK.out.few)
            go_wp2_with (go_at_call 32; refine HS1.out.mono ?_; rintro e w21 ⟨rfl, hb⟩; refine Hid.out ?_)
            refine Nu.hid ?_
            have HGI := Nu.hid (HGI.out.later hb)
            have HGA := Nu.hid (HGA.out.later hb)
            have HT := Nu.hid (HT.out.later hb)
            clear hb g0 g1 a0 a1 d0 d1 i0 i1 k0 k1 hsg hal hdl hil hkl HGK HGD
            obtain ⟨a0, a1⟩ := HGA.out.cells
            obtain ⟨i0, i1⟩ := HGI.out.cells
            have hal := HGA.out.lt
            have hil := HGI.out.lt
            have HS2 := Nu.hid (same_true (m : Int) ia pa ic pc er w21 HGI.out.ed HGA.out.ed HGI.out.few)
            go_wp2_with (go_at_call 32; refine HS2.out.mono ?_; rintro e w22 ⟨rfl, hb⟩; have HTZ := Nu.hid (HT.out.later hb))
            go_meet
            exact HTZ.out
          · go_wp2
            go_meet
            exact HT.out
        · go_wp2
          go_meet
          exact HT.out
    case rest =>
    have HT := Nu.hid hcut
    clear hcut
    obtain ⟨w4, rfl⟩ : ∃ w4, w4 = wc := ⟨wc, rfl⟩
    obtain ⟨⟨NW, LW, cW⟩, hrW⟩ : ∃ r, Ed.withE (m : Int) es (x1, x2) = r := ⟨_, rfl⟩
    rw [hrW] at HWI
    have HRW := Nu.hid hrW
    clear hrW
    obtain ⟨g0, g1, -⟩ := pair_cells HT.out.box
    obtain ⟨y0, y1, -⟩ := pair_cells HT.out.edge
    go_wp2_with (go_at_call 13; refine (HWI.out _ HT.out.low).mono ?_; rintro e w5 ⟨v, rfl, ho, hb⟩; refine Hid.out ?_)
    refine Nu.hid ?_
    have HT := Nu.hid (HT.out.later hb)
    obtain ⟨va, vc, rfl, -, -, -, -⟩ := ho.form
    try dsimp only at ho
    try dsimp only
    have HGW := Nu.hid (Got.new (n := NW) ho)
    clear hb ho g0 g1 y0 y1
    go_upto_if 168 with fail
    have hbz : Below w5.heap.size w5 (w5.alloc (.cells #[.int .i64 NW, .slice va LW.length vc] 24)) := (Below.refl _ _).alloc (Nat.le_refl _) _
    have HT := Nu.hid (HT.out.later hbz)
    clear hbz
    obtain ⟨H, hH⟩ : ∃ H, H = w5.heap.size := ⟨_, rfl⟩
    rw [← hH] at HGW ⊢
    generalize w5.alloc (.cells #[.int .i64 NW, .slice va LW.length vc] 24) = w6 at HT HGW ⊢
    clear hH
    go_cut [21] from 22 to 208 (fun _ wr => Two w (m : Int) ao ca es x1 x2 wr)
    case first =>
      by_cases hc0 : cW = 0
      · subst hc0
        obtain ⟨-, hok, hnx, hfw, rfl, rfl⟩ := Ed.with_ok HRW.out
        obtain ⟨LB, hLB⟩ : ∃ LB, Si.put es (x1, x2) = LB := ⟨_, rfl⟩
        have hlen : LB.length = es.length + 1 := by rw [← hLB]; exact Ed.put_len1 HVAL.out hnx
        have hV : Si.Val (m : Int) LB := by rw [← hLB]; exact Ed.put_val HVAL.out hok hfw
        have hmem : (x1, x2) ∈ LB := by rw [← hLB, Si.mem_put]; exact .inl rfl
        have HER : Hid (∀ p : Nat, LB[p]? = some (x1, x2) → LB.eraseIdx p = es) := fun p hp => by
          rw [← hLB] at hp ⊢
          exact Ed.erase_put HVAL.out hok hnx hfw hp
        rw [hLB] at HGW ⊢
        have HV := Nu.hid hV
        have HLEN := Nu.hid hlen
        have HMEM := Nu.hid hmem
        have hlb : LB.length ≤ 4194305 := by omega
        clear hLB hok hnx hfw hlen hV hmem HRW
        obtain ⟨k0, k1⟩ := HGW.out.cells
        have hkl := HGW.out.lt
        have hzz : ((0 : Int) == 0) = true := by simp
        go_wp2
        go_loopw [21, 172] (fun a c wr => ∃ (i : Nat) (z : Int), i ≤ LB.length ∧ c = .int .i64 i ∧ a = .int .i64 z ∧ ((∀ j, j < i → LB[j]? ≠ some (x1, x2)) ∨ ∃ p : Nat, p < i ∧ z = (p : Int) ∧ LB[p]? = some (x1, x2)) ∧ Two w (m : Int) ao ca es x1 x2 wr ∧ Got wr H (m : Int) LB va vc) (fun _ c _ => LB.length - (intOf c).toNat)
        case atStart => exact ⟨0, -1, Nat.zero_le _, rfl, rfl, .inl fun j h => by omega, HT.out, HGW.out⟩
        case round =>
          obtain ⟨i, z, hil, rfl, rfl, hat', hT, hgw⟩ := hrel
          have HT := Nu.hid hT
          have HGW := Nu.hid hgw
          have HAT' := Nu.hid hat'
          clear k0 k1 hkl
          obtain ⟨k0, k1⟩ := hgw.cells
          obtain ⟨y0, y1, -⟩ := pair_cells hT.edge
          obtain ⟨g0, g1, -⟩ := pair_cells hT.box
          have hkl := hgw.lt
          have hsx := lt_of_block hT.edge
          have hsg := lt_of_block hT.box
          by_cases hlt : i < LB.length
          · have hlti : (i : Int) < (LB.length : Int) := by omega
            have hi0 : (0 : Int) ≤ (i : Int) := by omega
            obtain ⟨p, hp⟩ : ∃ p, LB[i]? = some p := ⟨_, List.getElem?_eq_getElem hlt⟩
            obtain ⟨b, o, rfl, c0, c1⟩ := hgw.ed i p hp
            have hbl : b < wr.heap.size := block_lt_of_cell c0
            obtain ⟨p1, p2⟩ := p
            dsimp only at c0 c1
            have HP := Nu.hid hp
            clear hp hat' hT hgw
            by_cases hpx : (p1, p2) = (x1, x2)
            · have hbe : (p1 == x1 && p2 == x2) = true := by cases hpx; simp
              have HPX := Nu.hid hpx
              clear hpx
              go_wp2_with fail
              have eqP := eqEdge
              go_quiet (fail)
              clear eqP
              go_wp2
              go_roundw
              case rel => exact ⟨i + 1, (i : Int), by omega, by go_num, rfl, .inr ⟨i, by omega, rfl, by rw [HP.out, HPX.out]⟩, ⟨below_drewN HT.out.low _, HT.out.box, HT.out.edge⟩, ⟨HGW.out.box, HGW.out.ed, HGW.out.few⟩⟩
              case measure => simp [intOf]; omega
            · have hbe : (p1 == x1 && p2 == x2) = false := by
                by_cases e1 : p1 = x1
                · have : p2 ≠ x2 := fun e2 => hpx (by rw [e1, e2])
                  simp [this]
                · simp [e1]
              have HPX := Nu.hid hpx
              clear hpx
              go_wp2_with fail
              have eqP := eqEdge
              go_quiet (fail)
              clear eqP
              go_wp2
              go_roundw
              case rel =>
                refine ⟨i + 1, z, by omega, by go_num, rfl, ?_, ⟨below_drewN HT.out.low _, HT.out.box, HT.out.edge⟩, ⟨HGW.out.box, HGW.out.ed, HGW.out.few⟩⟩
                rcases HAT'.out with h | ⟨q, hq, e, h⟩
                · refine .inl fun j hj => ?_
                  by_cases hji : j = i
                  · subst hji
                    rw [HP.out]
                    intro e
                    exact HPX.out (Option.some.inj e)
                  · exact h j (by omega)
                · exact .inr ⟨q, by omega, e, h⟩
              case measure => simp [intOf]; omega
          · have hd : ¬ ((i : Int) < (LB.length : Int)) := by omega
            obtain ⟨q, hqe, hqx⟩ : ∃ q : Nat, z = (q : Int) ∧ LB[q]? = some (x1, x2) := by
              rcases hat' with h | ⟨q, _, e, h⟩
              · exfalso
                obtain ⟨j, hj, e⟩ := List.mem_iff_getElem.1 HMEM.out
                exact h j (by omega) (by rw [← e]; exact List.getElem?_eq_getElem hj)
              · exact ⟨q, e, h⟩
            subst hqe
            have hwo := ewithout_any (m : Int) (q : Int) va vc LB wr hgw.ed (by omega)
            rw [Ed.without_yes HV.out (List.getElem?_eq_some_iff.1 hqx).1, HER.out q hqx] at hwo
            unfold graphVal at hwo
            have HWQ := Nu.hid hwo
            clear hwo hqx hat' hT hgw
            go_wp2_with (go_at_call 10; refine HWQ.out.mono ?_; rintro e w11 ⟨v, rfl, ho, hb⟩; refine Hid.out ?_)
            refine Nu.hid ?_
            have HT := Nu.hid (HT.out.later hb)
            have HGW := Nu.hid (HGW.out.later hb)
            obtain ⟨qa, qc, rfl, -, -, -, -⟩ := ho.form
            try dsimp only at ho
            try dsimp only
            have HGC := Nu.hid (Got.new (n := (m : Int)) ho)
            clear hb ho k0 k1 y0 y1 g0 g1 hkl hsx hsg
            obtain ⟨k0, k1⟩ := HGW.out.cells
            obtain ⟨g0, g1, -⟩ := pair_cells HT.out.box
            have hkl := HGW.out.lt
            have hsg := lt_of_block HT.out.box
            have hs2 : IntKind.i64.wrap ((es.length : Int) + 1) = (LB.length : Int) := by rw [wrap_small _ (by omega) (by omega)]; have := HLEN.out; omega
            have hbz : Below w11.heap.size w11 (w11.alloc (.cells #[.int .i64 (m : Int), .slice qa es.length qc] 24)) := (Below.refl _ _).alloc (Nat.le_refl _) _
            have HT := Nu.hid (HT.out.later hbz)
            have HS := Nu.hid (same_true (m : Int) qa ao qc ca es _ HGC.out.ed (HAT.out.later HT.out.low) HGC.out.few)
            have hll : ((LB.length : Int) != (LB.length : Int)) = false := by simp
            clear hbz
            go_wp2_with (go_at_call 32; refine HS.out.mono ?_; rintro e w12 ⟨rfl, hb⟩; have HTZ := Nu.hid (HT.out.later hb))
            go_meet
            exact HTZ.out
      · have hzz : (cW == 0) = false := by simp [hc0]
        clear hc0
        go_wp2
        go_meet
        exact HT.out
    case rest =>
    have HT := Nu.hid hcut
    clear hcut HGW
    obtain ⟨w7, rfl⟩ : ∃ w7, w7 = wc := ⟨wc, rfl⟩
    obtain ⟨g0, g1, -⟩ := pair_cells HT.out.box
    rcases Ed.apex_cases HVAL.out with ⟨hap, hcond⟩ | ⟨hap, hn1, hn2⟩
    · rw [hap] at HAP
      clear hap
      have hsum : IntKind.i64.wrap ((m : Int) + (es.length : Int)) = (m : Int) + (es.length : Int) := wrap_small _ (by omega) (by omega)
      have hc1 : (decide ((1048576 : Int) ≤ (m : Int)) || decide ((4194304 : Int) < (m : Int) + (es.length : Int))) = true := by simp; omega
      clear hcond
      go_wp2_with (go_at_call 17; refine (HAP.out _ HT.out.low).mono ?_; rintro e w8 ⟨v, rfl, ho, hb⟩; refine Hid.out ?_)
      refine Nu.hid ?_
      have HT := Nu.hid (HT.out.later hb)
      obtain ⟨va', vc', rfl, -, -, -, -⟩ := ho.form
      clear hb ho g0 g1
      obtain ⟨g0, g1, -⟩ := pair_cells HT.out.box
      have hsg := lt_of_block HT.out.box
      by_cases hbm : (1048576 : Int) ≤ (m : Int)
      · go_wp2
        go_ret
        exact ⟨rfl, HT.out.low.alloc HT.out.low.size _⟩
      · have hbe : (4194304 : Int) < (m : Int) + (es.length : Int) := by simp at hc1; omega
        clear hc1
        go_wp2
        go_ret
        exact ⟨rfl, HT.out.low.alloc HT.out.low.size _⟩
    · rw [hap, Int.toNat_natCast] at HAP
      obtain ⟨LA, hLA⟩ : ∃ LA, Ed.spk (m : Int) es m = LA := ⟨_, rfl⟩
      have hlen : LA.length = es.length + m := by rw [← hLA]; exact Ed.spk_len HVAL.out m
      have HIN : Hid (∀ W A C, EdgesAt W A LA → ∀ lo lc, IntsAt W lo (Ed.fr 0 m) → Calls Try.prog 24 #[.agg #[.int .i64 ((m : Int) + 1), .slice A LA.length C], .slice lo m lc] W (AnsP ((m : Int), es, 0) W)) := fun W A C h lo lc hi => by
        have := einduced_any ((m : Int) + 1) lo m lc (Ed.fr 0 m) A C LA W h (by omega) (Ed.fr_length 0 m) hi (by omega)
        rw [← hLA, Ed.apex_back HVAL.out hn1 hn2, hLA] at this
        exact this
      rw [hLA] at HAP
      have HLEN := Nu.hid hlen
      clear hap hLA hn1 hn2 hlen
      go_wp2_with (go_at_call 17; refine (HAP.out _ HT.out.low).mono ?_; rintro e w8 ⟨v, rfl, ho, hb⟩; refine Hid.out ?_)
      refine Nu.hid ?_
      have HT := Nu.hid (HT.out.later hb)
      obtain ⟨pa, pc, rfl, -, -, -, -⟩ := ho.form
      try dsimp only at ho
      try dsimp only
      have HGA := Nu.hid (Got.new (n := (m : Int) + 1) ho)
      clear hb ho g0 g1
      go_upto_region 32 with fail
      have hbz : Below w8.heap.size w8 (w8.alloc (.cells #[.int .i64 ((m : Int) + 1), .slice pa LA.length pc] 24)) := (Below.refl _ _).alloc (Nat.le_refl _) _
      have HT := Nu.hid (HT.out.later hbz)
      clear hbz
      obtain ⟨HA, hHA⟩ : ∃ HA, HA = w8.heap.size := ⟨_, rfl⟩
      rw [← hHA] at HGA ⊢
      generalize w8.alloc (.cells #[.int .i64 ((m : Int) + 1), .slice pa LA.length pc] 24) = w9 at HT HGA ⊢
      clear hHA
      have hsg := lt_of_block HT.out.box
      have hpl := HGA.out.lt
      go_cut [27, 28] from 231 to 239 (fun p q wr => ∃ (H : Nat) (va : Option Addr) (vc : Nat), p = .pointer (some ⟨H, 0, none⟩) ∧ q = .int .i64 0 ∧ Got wr H (m : Int) es va vc ∧ Below w9.heap.size w9 wr)
      case first =>
        have HGZ : Hid (∀ V, Below w9.heap.size w9 V → V.cell? ⟨w.heap.size, 0, none⟩ = some (.int .i64 (m : Int)) ∧ V.cell? ⟨HA, 0, none⟩ = some (.int .i64 ((m : Int) + 1)) ∧ V.cell? ⟨HA, 1, none⟩ = some (.slice pa LA.length pc)) := fun V hb => ⟨(pair_cells (blk_later HT.out.box hb)).1, (HGA.out.later hb).cells.1, (HGA.out.later hb).cells.2⟩
        have hSz := HGZ.out _ (Below.refl _ _)
        try dsimp only at hSz
        go_wp2_with fail
        go_region_held3 (fun w' => w'.cell? ⟨w.heap.size, 0, none⟩ = some (.int .i64 (m : Int)) ∧ w'.cell? ⟨HA, 0, none⟩ = some (.int .i64 ((m : Int) + 1)) ∧ w'.cell? ⟨HA, 1, none⟩ = some (.slice pa LA.length pc))
          (first | exact hSz | exact HGZ.out _ (by repeat (first | exact Below.refl _ _ | exact hb1 | exact hb0 | refine Below.drew ?_ | refine Below.setCell ?_ (by first | (simp; done) | (simp; omega) | omega) _ | refine Below.alloc ?_ (by first | exact Nat.le_refl _ | (simp; done) | (simp; omega) | omega) _)))
          (first
            | (go_at_call 31; refine (HF0.out _ _ hm22).mono ?_; rintro e w32_0 ⟨fa, fc, rfl, hoF, hbx0⟩; have hb0 : Below w9.heap.size w9 w32_0 := Below.trans (by repeat (first | exact Below.refl _ _ | refine Below.drew ?_ | refine Below.alloc ?_ (by first | exact Nat.le_refl _ | (simp; done) | (simp; omega)) _)) (hbx0.mono (by simp)); have hsz0 : w9.heap.size ≤ w32_0.heap.size := hb0.size; (try have bx0_0 : w32_0.heap[w9.heap.size]? = some (.cells #[.int .i64 0, .slice none 0 0] 24 (0, 0)) := blk_later (heap_new_drew w9 _) hbx0))
            | (go_at_call 24; refine (HIN.out _ _ _ (HGA.out.ed.later (by repeat (first | exact hb0 | refine Below.alloc ?_ (by first | exact hsz0 | (simp; omega) | omega) _))) _ _ (by first | exact ownz_at hoF | exact (ownz_at hoF).later ((Below.refl _ _).alloc (Nat.le_refl _) _))).mono ?_; rintro e w32_1 ⟨v, rfl, hoL, hbx1⟩; have hb1 : Below w9.heap.size w9 w32_1 := Below.trans (by repeat (first | exact hb0 | refine Below.alloc ?_ (by first | exact hsz0 | (simp; omega) | omega) _)) (hbx1.mono (by first | exact hsz0 | (simp; omega) | omega)); have hsz1 : w9.heap.size ≤ w32_1.heap.size := hb1.size; (try have bx0_1 : w32_1.heap[w9.heap.size]? = some (.cells #[.int .i64 0, .slice none 0 0] 24 (0, 0)) := blk_later (bx0_0) hbx1); (try have bx1_1 : w32_1.heap[w32_0.heap.size]? = some (.cells #[.int .i64 0, .slice none 0 0] 24 (0, 0)) := blk_later (heap_alloc_new w32_0 _) hbx1); obtain ⟨va, vc, rfl, -, -, -, -⟩ := hoL.form; (try have q0_0 := (pair_cells bx0_1).1); (try have q0_1 := (pair_cells bx0_1).2.1); (try have q0_2 := (pair_cells bx0_1).2.2 0); (try have q0_3 := (pair_cells bx0_1).2.2 1); (try have q1_0 := (pair_cells bx1_1).1); (try have q1_1 := (pair_cells bx1_1).2.1); (try have q1_2 := (pair_cells bx1_1).2.2 0); (try have q1_3 := (pair_cells bx1_1).2.2 1)))
        all_goals
          go_wp2
          go_meet
          first
            | exact ⟨_, _, _, rfl, rfl, Got.new hoL, hb1.alloc hsz1 _⟩
            | exact ⟨_, _, _, rfl, rfl, Got.set bx1_1 hoL (by simp), (hb1.setCell (p := ⟨w32_0.heap.size, 0, none⟩) hsz0 _).setCell (p := ⟨w32_0.heap.size, 1, none⟩) hsz0 _⟩
            | exact ⟨_, _, _, rfl, rfl, Got.set bx0_1 hoL (lt_of_block bx0_0), (hb1.setCell (p := ⟨w9.heap.size, 0, none⟩) (Nat.le_refl _) _).setCell (p := ⟨w9.heap.size, 1, none⟩) (Nat.le_refl _) _⟩
      case rest =>
      obtain ⟨HX, xa, xc, rfl, rfl, hgx, hb⟩ := hcut
      have HGX := Nu.hid hgx
      have HGA := Nu.hid (HGA.out.later hb)
      have HT := Nu.hid (HT.out.later hb)
      clear hb hgx hsg hpl
      obtain ⟨g0, g1, -⟩ := pair_cells HT.out.box
      obtain ⟨a0, a1⟩ := HGA.out.cells
      obtain ⟨k0, k1⟩ := HGX.out.cells
      have hsg := lt_of_block HT.out.box
      have hal := HGA.out.lt
      have hkl := HGX.out.lt
      have hs1 : IntKind.i64.wrap ((m : Int) + 1) = (m : Int) + 1 := wrap_small _ (by omega) (by omega)
      have hs2 : IntKind.i64.wrap ((es.length : Int) + (m : Int)) = (LA.length : Int) := by rw [wrap_small _ (by omega) (by omega)]; have := HLEN.out; omega
      have HS := Nu.hid (same_true (m : Int) xa ao xc ca es wc HGX.out.ed (HAT.out.later HT.out.low) HGX.out.few)
      go_wp2_with (go_at_call 32; refine HS.out.mono ?_; rintro e w12 ⟨rfl, hb⟩)
      go_ret
      exact ⟨rfl, HT.out.low.trans (hb.mono HT.out.low.size)⟩

set_option maxRecDepth 100000 in
/-- What the walk gives, for every argument and every world. -/
theorem contract (H : Type) (enc : TypeId × Value → H) (W : World) (base : Nat) (args : Array Value) (ds gs : List (DataW H)) (before : List MemPlace)
    (hval : ∀ (j : Nat) t v, Try.f6.params[j]? = some t → args[j]? = some v → Value.okWide Try.prog W .any base t v)
    (hW : DataW.Whole enc Try.prog Try.f6.params.toList Rows.editBackSpec.vars false W args.toList ds gs before)
    (hsz : (DataW.weightsEach Try.prog (Try.f6.params.toList ++ (OpenSpec.ofChange Rows.editBackSpec).bare.plain.varTypes Try.prog) (ds ++ gs)).all (· ≤ reachBytes) = true)
    :
    Calls Try.prog 6 args W fun e W' => ∃ v, e = .returned v ∧ Rows.editBackSpec.post enc Try.prog Try.f6 false true false false W args v W' := by
  have hW' := hW
  obtain ⟨p, q, hA0, hV, rfl, hfz, hnd⟩ := hW
  have hA : DataW.TrodAll enc Try.prog W 0 (fun _ => true) true Try.f6.params.toList args.toList ds p := hA0
  rw [Try.params6] at hA hval hsz
  obtain ⟨v0, vs0, d0, ds0, p0, q0, hargs, rfl, rfl, h0, r0⟩ := trodAll_cons hA
  obtain ⟨v1, vs1, d1, ds1, p1, q1, rfl, rfl, rfl, h1, r1⟩ := trodAll_cons r0
  obtain ⟨v2, vs2, d2, ds2, p2, q2, rfl, rfl, rfl, h2, r2⟩ := trodAll_cons r1
  obtain ⟨rfl, rfl, rfl⟩ := trodAll_nil r2
  obtain rfl : args = #[v0, v1, v2] := by cases args; simp_all
  obtain ⟨rfl, rfl⟩ := trodVars_none hV
  have k0 := h0
  have lt0 : ∀ x ∈ p0, x.block < W.heap.size := by obtain ⟨m, hm⟩ := k0; exact DataW.trod_lt m _ _ _ hm
  obtain ⟨n0, a0, cap0, q0, rfl, x0, w0, u0⟩ := graph_of_trod (j := 0) (hval 0 24 v0 rfl rfl) h0 hsz rfl rfl
  obtain ⟨a1, rfl, rfl, rfl, w1⟩ := open_int Try.underlying3 (hval 1 3 v1 rfl rfl) h1
  have k2 := h2
  have lt2 : ∀ x ∈ p2, x.block < W.heap.size := by obtain ⟨m, hm⟩ := k2; exact DataW.trod_lt m _ _ _ hm
  obtain ⟨q2, rfl, w2⟩ := edge_of_trod (hval 2 26 v2 rfl rfl) h2
  clear hA0
  refine (walk n0 a0 cap0 q0 a1 q2 W x0 w0 u0 w1 w2).mono fun e W' ⟨he, bel⟩ => ?_
  subst he
  exact ⟨_, rfl, _, _, _, [], _, [], hW', trodAll_mk1 (shut_bool Try.underlying4 _), (trodAll_cons_mk (Below.trod laidOut (by kernel_rfl) (of_decide_eq_true (by kernel_rfl)) k0 bel lt0) (trodAll_cons_mk (shut_int Try.underlying3 w1) (trodAll_cons_mk (Below.trod laidOut (by kernel_rfl) (of_decide_eq_true (by kernel_rfl)) k2 bel lt2) trodAll_mk0))), rfl, bel.frame _, fun h => by cases h⟩

theorem laid_met (os : Os) : laidMet Try.prog Rows.editBackRow.laid ((settled os).forCall (fun _ _ => 0) ⟨#[], #[.agg #[.int .i64 0, .slice none 0 0], .int .i64 0, .agg #[.int .i64 0, .int .i64 0]], []⟩).memory :=
  laidMet_of_run' 100 (by kernel_rfl) (by kernel_rfl)
theorem reads (os : Os) {H : Type} (enc : TypeId × Value → H) : ∃ places, DataW.whole enc Try.prog ((settled os).forCall (fun _ _ => 0) ⟨#[], #[.agg #[.int .i64 0, .slice none 0 0], .int .i64 0, .agg #[.int .i64 0, .int .i64 0]], []⟩).memory Try.f6.params.toList Rows.editBackSpec.vars false (#[.agg #[.int .i64 0, .slice none 0 0], .int .i64 0, .agg #[.int .i64 0, .int .i64 0]] : Array Value).toList 8 = some ([.agg [.lit (.int .i64 0), .nil], .lit (.int .i64 0), .agg [.lit (.int .i64 0), .lit (.int .i64 0)]], [], places) :=
  ⟨[], by kernel_rfl⟩

set_option maxRecDepth 100000 in
theorem lifted (os : Os) (started : os.Started) (H : Type) (enc : TypeId × Value → H) (F : Stop.Interp) :
    ReturnsInHanded {} Try.checked os 6 .any ((OpenSpec.ofChange Rows.editBackSpec).preRow enc Try.prog Try.f6 Rows.editBackRow.domain false Rows.editBackRow.laid) (((OpenSpec.ofChange Rows.editBackSpec).at F).post enc Try.prog Try.f6 false true false false) := by
  obtain ⟨places, hx⟩ := reads os enc
  refine returnsInHanded_of_row (C := Try.checked) (s := (OpenSpec.ofChange Rows.editBackSpec)) own started (by kernel_rfl) Try.func6
    (witness_row_at (enc := enc) (C := Try.checked) false (settled os) #[.agg #[.int .i64 0, .slice none 0 0], .int .i64 0, .agg #[.int .i64 0, .int .i64 0]] rfl (by kernel_rfl) (by kernel_rfl) (by kernel_rfl)
      (OpenSpec.preRow_of_cond 8 hx (by kernel_rfl) (fun k hk => by cases hk) (by kernel_rfl) (laid_met os))) ?_
  intro W base args ds gs before hval hW _ _ hsz _ _ _
  exact contract H enc W base args ds gs before hval hW hsz 

theorem said : Rows.EditBackSaid :=
  OpenClaim.holds_of_cond 6 Try.f6 rfl rfl rfl rfl rfl rfl rfl ⟨rfl, rfl, rfl, rfl, rfl⟩ rfl rfl rfl rfl rfl (by kernel_rfl) Try.func6 (by kernel_rfl)
    (of_decide_eq_true (by kernel_rfl)) (by unfold Func.isWrapper; first | (rw [if_pos (by decide +kernel)]; kernel_rfl) | (rw [if_neg (by decide +kernel)]; exact ⟨rfl, rfl⟩))
    (fun os started H enc _ F => by rw [OpenClaim.pre_eq_preRow]; exact lifted os started H enc F)

end lawEK

theorem editBack_holds : Rows.EditBackSaid := lawEK.said

#print axioms editBack_holds
end Go.Proofs.Ytdkckdbpbdhoaaa
