/-
  Proved: for every two graphs the law EditBeside answers true, and what is handed in reads afterwards as before. No condition.
-/
import Derived.Test.YtdkckdbpbdhoaaaEdLw
import Derived.Test.YtdkckdbpbdhoaaaEdW6
import Derived.Test.YtdkckdbpbdhoaaaEdW8
import Derived.Test.YtdkckdbpbdhoaaaEdR8
import Derived.Test.YtdkckdbpbdhoaaaSiGin
import Derived.Deep.CutRange
namespace Go.Proofs.Ytdkckdbpbdhoaaa
open Go.ChangeShapes Go.WideShapes Go.ChangeAt Go.RowKit
theorem Ed.beside_ok {n n' N : Int} {es es' L : List (Int × Int)} (h : Ed.beside n es n' es' = (N, L, 0)) : Si.Val n es ∧ Si.Val n' es' ∧ n + n' ≤ 1048576 ∧ es.length + es'.length ≤ 4194304 ∧ L = es ++ Ed.sh n es' ∧ N = n + n' := by
  unfold Ed.beside at h
  split at h
  · cases h
  · split at h
    · cases h
    · rename_i h1 h2
      have e1 : Si.valid n es = true := by
        cases hv : Si.valid n es
        · exact absurd (.inl hv) h1
        · rfl
      have e2 : Si.valid n' es' = true := by
        cases hv : Si.valid n' es'
        · exact absurd (.inr hv) h1
        · rfl
      cases h
      exact ⟨Si.valid_iff.1 e1, Si.valid_iff.1 e2, by omega, by omega, rfl, rfl⟩
theorem beside_val_len {n n' : Int} {es es' L : List (Int × Int)} (_ : Si.Val n es) (_ : Si.Val n' es') (h : es.length + es'.length ≤ 4194304) (hL : L = es ++ Ed.sh n es') : L.length ≤ 4194304 := by
  rw [hL, List.length_append, Ed.sh_length]
  exact h

namespace lawEB

set_option maxRecDepth 100000 in
set_option maxHeartbeats 16000000 in
theorem walk (n : Int) (ao : Option Addr) (ca : Nat) (es : List (Int × Int)) (n' : Int) (ao' : Option Addr) (ca' : Nat) (es' : List (Int × Int)) (w : World) (_ : -9223372036854775808 ≤ n ∧ n ≤ 9223372036854775807) (hq : PairsIn w ao es.length ca es) (hle : es.length * 16 ≤ 140737488351232) (_ : -9223372036854775808 ≤ n' ∧ n' ≤ 9223372036854775807) (hq' : PairsIn w ao' es'.length ca' es') (hle' : es'.length * 16 ≤ 140737488351232) :
    Calls Try.prog 5 #[.agg #[.int .i64 n, .slice ao es.length ca], .agg #[.int .i64 n', .slice ao' es'.length ca']] w fun e w' => e = .returned (.bool true) ∧ Below w.heap.size w w' := by
  have hnil : NilOk ao es ca := hq.hnil
  have hnil' : NilOk ao' es' ca' := hq'.hnil
  have hat := hq.hat
  have hat' := hq'.hat
  have HCP : Hid (∀ W, Below w.heap.size w W → Calls Try.prog 11 #[.agg #[.int .i64 n, .slice ao es.length ca]] W fun e w' => ∃ a c, e = .returned (.agg #[.int .i64 n, .slice a es.length c]) ∧ OwnE w' W.heap.size (.slice a es.length c) es ∧ Below W.heap.size W w') := fun W hb => rcopy14_any n ao ca es W (hat.later hb) hnil hle
  have HCQ : Hid (∀ W, Below w.heap.size w W → Calls Try.prog 11 #[.agg #[.int .i64 n', .slice ao' es'.length ca']] W fun e w' => ∃ a c, e = .returned (.agg #[.int .i64 n', .slice a es'.length c]) ∧ OwnE w' W.heap.size (.slice a es'.length c) es' ∧ Below W.heap.size W w') := fun W hb => rcopy14_any n' ao' ca' es' W (hat'.later hb) hnil' hle'
  have HP : Hid (∀ a c a' c' W, EdgesAt W a es → EdgesAt W a' es' → Calls Try.prog 29 #[.agg #[.int .i64 n, .slice a es.length c], .agg #[.int .i64 n', .slice a' es'.length c']] W (AnsP (Ed.beside n es n' es') W)) := fun a c a' c' W h h' => ebeside_any n n' a a' c c' es es' W h h' (by omega) (by omega)
  have HD : Hid (∀ W, Below w.heap.size w W → Calls Try.prog 30 #[.agg #[.int .i64 n, .slice ao es.length ca], .agg #[.int .i64 n', .slice ao' es'.length ca']] W (AnsP (Ed.beside n es n' es') W)) := fun W hb => rbeside_any n n' ao ao' ca ca' es es' W (hat.later hb) (hat'.later hb) hnil (by omega) (by omega)
  obtain ⟨⟨N1, L1, c1⟩, hr1⟩ : ∃ r, Ed.beside n es n' es' = r := ⟨_, rfl⟩
  rw [hr1] at HP HD
  have HR1 := Nu.hid hr1
  have HAT : Hid (EdgesAt w ao es) := hat
  have HAT' : Hid (EdgesAt w ao' es') := hat'
  have HLE : Hid (es.length * 16 ≤ 140737488351232 ∧ es'.length * 16 ≤ 140737488351232) := ⟨hle, hle'⟩
  have hB0 : Below w.heap.size w ((w.alloc (.cells #[.int .i64 n, .slice ao es.length ca] 24)).alloc (.cells #[.int .i64 n', .slice ao' es'.length ca'] 24)) := ((Below.refl _ _).alloc (Nat.le_refl _) _).alloc (by simp) _
  have hG : ((w.alloc (.cells #[.int .i64 n, .slice ao es.length ca] 24)).alloc (.cells #[.int .i64 n', .slice ao' es'.length ca'] 24)).heap[w.heap.size]? = some (.cells #[.int .i64 n, .slice ao es.length ca] 24 (0, 0)) := blk_alloc (heap_alloc_new w _) _
  have hX : ((w.alloc (.cells #[.int .i64 n, .slice ao es.length ca] 24)).alloc (.cells #[.int .i64 n', .slice ao' es'.length ca'] 24)).heap[w.heap.size + 1]? = some (.cells #[.int .i64 n', .slice ao' es'.length ca'] 24 (0, 0)) := heap_new1 w _ _
  have HB0 := Nu.hid hB0
  have HG0 := Nu.hid hG
  have HX0 := Nu.hid hX
  clear hq hq' hat hat' hnil hnil' hr1 hB0 hG hX hle hle'
  go_enter Try.func5, Try.ntmps5
  go_wp2_with (go_at_call 9; refine (fixed14_any _).mono ?_; rintro e w1 ⟨rfl, hb⟩; refine Hid.out ?_)
  refine Nu.hid ?_
  have HB := Nu.hid (HB0.out.trans (hb.mono HB0.out.size))
  have HG := Nu.hid (blk_later HG0.out hb)
  have HX := Nu.hid (blk_later HX0.out hb)
  clear hb HB0 HG0 HX0
  have hsg := lt_of_block HG.out
  have hsx := lt_of_block HX.out
  go_upto_region 3 with fail
  go_cut [5, 6] from 15 to 23 (fun p q wr => ∃ (H : Nat) (va : Option Addr) (vc : Nat), p = .pointer (some ⟨H, 0, none⟩) ∧ q = .int .i64 c1 ∧ Got wr H N1 L1 va vc ∧ Below w1.heap.size w1 wr)
  case first =>
    have HGZ : Hid (∀ V, Below w1.heap.size w1 V → V.cell? ⟨w.heap.size, 0, none⟩ = some (.int .i64 n) ∧ V.cell? ⟨w.heap.size, 1, none⟩ = some (.slice ao es.length ca) ∧ V.cell? ⟨w.heap.size + 1, 0, none⟩ = some (.int .i64 n') ∧ V.cell? ⟨w.heap.size + 1, 1, none⟩ = some (.slice ao' es'.length ca')) := fun V hb => ⟨(pair_cells (blk_later HG.out hb)).1, (pair_cells (blk_later HG.out hb)).2.1, (pair_cells (blk_later HX.out hb)).1, (pair_cells (blk_later HX.out hb)).2.1⟩
    have hSz := HGZ.out _ (Below.refl _ _)
    try dsimp only at hSz
    go_wp2_with fail
    go_region_held3 (fun w' => w'.cell? ⟨w.heap.size, 0, none⟩ = some (.int .i64 n) ∧ w'.cell? ⟨w.heap.size, 1, none⟩ = some (.slice ao es.length ca) ∧ w'.cell? ⟨w.heap.size + 1, 0, none⟩ = some (.int .i64 n') ∧ w'.cell? ⟨w.heap.size + 1, 1, none⟩ = some (.slice ao' es'.length ca'))
      (first | exact hSz | exact HGZ.out _ (by repeat (first | exact Below.refl _ _ | exact hb2 | exact hb1 | exact hb0 | refine Below.drew ?_ | refine Below.setCell ?_ (by first | (simp; done) | (simp; omega) | omega) _ | refine Below.alloc ?_ (by first | exact Nat.le_refl _ | (simp; done) | (simp; omega) | omega) _)))
      (first
        | (go_at_call 11; with_reducible refine (HCP.out _ (HB.out.trans (Below.mono (by repeat (first | exact Below.refl _ _ | refine Below.drew ?_ | refine Below.alloc ?_ (by first | exact Nat.le_refl _ | (simp; done) | (simp; omega)) _)) HB.out.size))).mono ?_; rintro e w3_0 ⟨pa, pc, rfl, hoA, hbx0⟩; have hb0 : Below w1.heap.size w1 w3_0 := Below.trans (by repeat (first | exact Below.refl _ _ | refine Below.drew ?_ | refine Below.alloc ?_ (by first | exact Nat.le_refl _ | (simp; done) | (simp; omega)) _)) (hbx0.mono (by simp)); have hsz0 : w1.heap.size ≤ w3_0.heap.size := hb0.size; (try have bx0_0 : w3_0.heap[w1.heap.size]? = some (.cells #[.int .i64 0, .slice none 0 0] 24 (0, 0)) := blk_later (heap_new_drew w1 _) hbx0); obtain ⟨_, _, e1, _, _, hedA, _⟩ := hoA.form; cases e1)
        | (go_at_call 11; with_reducible refine (HCQ.out _ (HB.out.trans (Below.mono (by repeat (first | exact hb0 | refine Below.alloc ?_ (by first | exact hsz0 | (simp; omega) | omega) _)) HB.out.size))).mono ?_; rintro e w3_1 ⟨qa, qc, rfl, hoB, hbx1⟩; have hb1 : Below w1.heap.size w1 w3_1 := Below.trans (by repeat (first | exact hb0 | refine Below.alloc ?_ (by first | exact hsz0 | (simp; omega) | omega) _)) (hbx1.mono (by first | exact hsz0 | (simp; omega) | omega)); have hsz1 : w1.heap.size ≤ w3_1.heap.size := hb1.size; (try have bx0_1 : w3_1.heap[w1.heap.size]? = some (.cells #[.int .i64 0, .slice none 0 0] 24 (0, 0)) := blk_later (bx0_0) hbx1); (try have bx1_1 : w3_1.heap[w3_0.heap.size]? = some (.cells #[.int .i64 0, .slice none 0 0] 24 (0, 0)) := blk_later (heap_alloc_new w3_0 _) hbx1); obtain ⟨_, _, e2, _, _, hedB, _⟩ := hoB.form; cases e2)
        | (go_at_call 29; refine (HP.out _ _ _ _ _ (by first | exact hedA.later (by first | exact hbx1 | exact ((Below.refl _ _).alloc (Nat.le_refl _) _).trans (hbx1.mono (by simp)) | exact hbx1.trans ((Below.refl _ _).alloc hbx1.size _) | exact (((Below.refl _ _).alloc (Nat.le_refl _) _).trans (hbx1.mono (by simp))).alloc (by have := hbx1.size; simp at this; omega) _)) (by first | exact hedB | exact hedB.later ((Below.refl _ _).alloc (Nat.le_refl _) _))).mono ?_; rintro e w3_2 ⟨v, rfl, hoL, hbx2⟩; have hb2 : Below w1.heap.size w1 w3_2 := Below.trans (by repeat (first | exact hb1 | refine Below.alloc ?_ (by first | exact hsz1 | (simp; omega) | omega) _)) (hbx2.mono (by first | exact hsz1 | (simp; omega) | omega)); have hsz2 : w1.heap.size ≤ w3_2.heap.size := hb2.size; (try have bx0_2 : w3_2.heap[w1.heap.size]? = some (.cells #[.int .i64 0, .slice none 0 0] 24 (0, 0)) := blk_later (bx0_1) hbx2); (try have bx1_2 : w3_2.heap[w3_0.heap.size]? = some (.cells #[.int .i64 0, .slice none 0 0] 24 (0, 0)) := blk_later (bx1_1) hbx2); (try have bx2_2 : w3_2.heap[w3_1.heap.size]? = some (.cells #[.int .i64 0, .slice none 0 0] 24 (0, 0)) := blk_later (heap_alloc_new w3_1 _) hbx2); obtain ⟨va, vc, rfl, -, -, -, -⟩ := hoL.form; (try have q0_0 := (pair_cells bx0_2).1); (try have q0_1 := (pair_cells bx0_2).2.1); (try have q0_2 := (pair_cells bx0_2).2.2 0); (try have q0_3 := (pair_cells bx0_2).2.2 1); (try have q1_0 := (pair_cells bx1_2).1); (try have q1_1 := (pair_cells bx1_2).2.1); (try have q1_2 := (pair_cells bx1_2).2.2 0); (try have q1_3 := (pair_cells bx1_2).2.2 1); (try have q2_0 := (pair_cells bx2_2).1); (try have q2_1 := (pair_cells bx2_2).2.1); (try have q2_2 := (pair_cells bx2_2).2.2 0); (try have q2_3 := (pair_cells bx2_2).2.2 1)))
    all_goals
      go_wp2
      go_meet
      first
        | exact ⟨_, _, _, rfl, rfl, Got.new hoL, hb2.alloc hsz2 _⟩
        | exact ⟨_, _, _, rfl, rfl, Got.set bx2_2 hoL (by simp), (hb2.setCell (p := ⟨w3_1.heap.size, 0, none⟩) hsz1 _).setCell (p := ⟨w3_1.heap.size, 1, none⟩) hsz1 _⟩
        | exact ⟨_, _, _, rfl, rfl, Got.set bx1_2 hoL (lt_of_block bx1_1), (hb2.setCell (p := ⟨w3_0.heap.size, 0, none⟩) hsz0 _).setCell (p := ⟨w3_0.heap.size, 1, none⟩) hsz0 _⟩
        | exact ⟨_, _, _, rfl, rfl, Got.set bx0_2 hoL (lt_of_block bx0_1), (hb2.setCell (p := ⟨w1.heap.size, 0, none⟩) (Nat.le_refl _) _).setCell (p := ⟨w1.heap.size, 1, none⟩) (Nat.le_refl _) _⟩
  case rest =>
  obtain ⟨H1, va, vc, rfl, rfl, hgp, hb⟩ := hcut
  have HGP := Nu.hid hgp
  have HB := Nu.hid (HB.out.trans (hb.mono HB.out.size))
  have HG := Nu.hid (blk_later HG.out hb)
  have HX := Nu.hid (blk_later HX.out hb)
  clear hb hgp hsg hsx
  obtain ⟨g0, g1, -⟩ := pair_cells HG.out
  obtain ⟨y0, y1, -⟩ := pair_cells HX.out
  have hsg := lt_of_block HG.out
  have hsx := lt_of_block HX.out
  go_wp2_with (go_at_call 30; refine (HD.out _ HB.out).mono ?_; rintro e w4 ⟨v, rfl, ho2, hb⟩; refine Hid.out ?_)
  refine Nu.hid ?_
  obtain ⟨ua, uc, rfl, -, -, -, -⟩ := ho2.form
  have HGP := Nu.hid (HGP.out.later hb)
  have HB := Nu.hid (HB.out.trans (hb.mono HB.out.size))
  have HG := Nu.hid (blk_later HG.out hb)
  have HX := Nu.hid (blk_later HX.out hb)
  try dsimp only at ho2
  try dsimp only
  have HGD := Nu.hid (Got.new (n := N1) ho2)
  clear ho2 hb g0 g1 y0 y1 hsg hsx
  obtain ⟨p0, p1⟩ := HGP.out.cells
  have hpl := HGP.out.lt
  have hbz : Below w4.heap.size w4 (w4.alloc (.cells #[.int .i64 N1, .slice ua L1.length uc] 24)) := (Below.refl _ _).alloc (Nat.le_refl _) _
  have HGP := Nu.hid (HGP.out.later hbz)
  have HB := Nu.hid (HB.out.trans (hbz.mono HB.out.size))
  have HG := Nu.hid (blk_later HG.out hbz)
  have HX := Nu.hid (blk_later HX.out hbz)
  have HT := Nu.hid (HGP.out.told HGD.out c1)
  clear hbz
  by_cases hc0 : c1 = 0
  · subst hc0
    obtain ⟨hv1, hv2, hs1, hs2, hL, hN⟩ := Ed.beside_ok HR1.out
    have hlo := hv1.lo
    have hlo' := hv2.lo
    obtain ⟨a, rfl⟩ : ∃ a : Nat, n = (a : Int) := ⟨n.toNat, by omega⟩
    obtain ⟨b, rfl⟩ : ∃ b : Nat, n' = (b : Int) := ⟨n'.toNat, by omega⟩
    have HI1 : Hid (∀ W A C, EdgesAt W A L1 → ∀ lo lc, IntsAt W lo (Ed.fr 0 a) → Calls Try.prog 24 #[.agg #[.int .i64 N1, .slice A L1.length C], .slice lo a lc] W (AnsP ((a : Int), es, 0) W)) := fun W A C h lo lc hi => by
      have := einduced_any N1 lo a lc (Ed.fr 0 a) A C L1 W h (by have := beside_val_len hv1 hv2 hs2 hL; omega) (Ed.fr_length 0 a) hi (by omega)
      rw [hN, hL, Ed.beside_fst hv1 hv2 hs1 hs2, ← hN, ← hL] at this
      exact this
    have HI2 : Hid (∀ W A C, EdgesAt W A L1 → ∀ lo lc, IntsAt W lo (Ed.fr a b) → Calls Try.prog 24 #[.agg #[.int .i64 N1, .slice A L1.length C], .slice lo b lc] W (AnsP ((b : Int), es', 0) W)) := fun W A C h lo lc hi => by
      have := einduced_any N1 lo b lc (Ed.fr a b) A C L1 W h (by have := beside_val_len hv1 hv2 hs2 hL; omega) (Ed.fr_length a b) hi (by omega)
      rw [hN, hL, Ed.beside_snd hv1 hv2 hs1 hs2, ← hN, ← hL] at this
      exact this
    have HF : Hid (∀ k m W, k ≤ 4194304 → m ≤ 4194304 → Calls Try.prog 31 #[.int .i64 ((k : Nat) : Int), .int .i64 ((m : Nat) : Int)] W fun e w' => ∃ A c, e = .returned (.slice A m c) ∧ OwnZ w' W.heap.size (.slice A m c) (Ed.fr k m) ∧ Below W.heap.size W w') := fun k m W h1 h2 => from_any k m W h1 h2
    have HF0 : Hid (∀ (m : Nat) W, m ≤ 4194304 → Calls Try.prog 31 #[.int .i64 0, .int .i64 (m : Int)] W fun e w' => ∃ A c, e = .returned (.slice A m c) ∧ OwnZ w' W.heap.size (.slice A m c) (Ed.fr 0 m) ∧ Below W.heap.size W w') := fun m W h2 => from_any 0 m W (by omega) h2
    have ha20 : a ≤ 4194304 := by have := hv1.hi; omega
    have hb20 : b ≤ 4194304 := by have := hv2.hi; omega
    clear hv1 hv2 hs1 hs2 hL hN hlo hlo'
    go_wp2_with (go_at_call 19; refine HT.out.mono ?_; rintro e w5 ⟨rfl, hb⟩; refine Hid.out ?_)
    refine Nu.hid ?_
    have HGP := Nu.hid (HGP.out.later hb)
    have HB := Nu.hid (HB.out.trans (hb.mono HB.out.size))
    have HG := Nu.hid (blk_later HG.out hb)
    have HX := Nu.hid (blk_later HX.out hb)
    clear hb HT HGD p0 p1 hpl
    have hsg := lt_of_block HG.out
    have hsx := lt_of_block HX.out
    have hpl := HGP.out.lt
    go_upto_region 7 with fail
    go_cut [9, 10] from 44 to 52 (fun p q wr => ∃ (H : Nat) (va : Option Addr) (vc : Nat), p = .pointer (some ⟨H, 0, none⟩) ∧ q = .int .i64 0 ∧ Got wr H (a : Int) es va vc ∧ Below w5.heap.size w5 wr)
    case first =>
      have HGZ : Hid (∀ V, Below w5.heap.size w5 V → V.cell? ⟨w.heap.size, 0, none⟩ = some (.int .i64 (a : Int)) ∧ V.cell? ⟨H1, 0, none⟩ = some (.int .i64 N1) ∧ V.cell? ⟨H1, 1, none⟩ = some (.slice va L1.length vc)) := fun V hb => ⟨(pair_cells (blk_later HG.out hb)).1, (HGP.out.later hb).cells.1, (HGP.out.later hb).cells.2⟩
      have hSz := HGZ.out _ (Below.refl _ _)
      try dsimp only at hSz
      go_wp2_with fail
      go_region_held3 (fun w' => w'.cell? ⟨w.heap.size, 0, none⟩ = some (.int .i64 (a : Int)) ∧ w'.cell? ⟨H1, 0, none⟩ = some (.int .i64 N1) ∧ w'.cell? ⟨H1, 1, none⟩ = some (.slice va L1.length vc))
        (first | exact hSz | exact HGZ.out _ (by repeat (first | exact Below.refl _ _ | exact hb1 | exact hb0 | refine Below.drew ?_ | refine Below.setCell ?_ (by first | (simp; done) | (simp; omega) | omega) _ | refine Below.alloc ?_ (by first | exact Nat.le_refl _ | (simp; done) | (simp; omega) | omega) _)))
        (first
          | (go_at_call 31; refine (HF0.out _ _ ha20).mono ?_; rintro e w7_0 ⟨fa, fc, rfl, hoF, hbx0⟩; have hb0 : Below w5.heap.size w5 w7_0 := Below.trans (by repeat (first | exact Below.refl _ _ | refine Below.drew ?_ | refine Below.alloc ?_ (by first | exact Nat.le_refl _ | (simp; done) | (simp; omega)) _)) (hbx0.mono (by simp)); have hsz0 : w5.heap.size ≤ w7_0.heap.size := hb0.size; (try have bx0_0 : w7_0.heap[w5.heap.size]? = some (.cells #[.int .i64 0, .slice none 0 0] 24 (0, 0)) := blk_later (heap_new_drew w5 _) hbx0))
          | (go_at_call 24; refine (HI1.out _ _ _ (HGP.out.ed.later (by repeat (first | exact hb0 | refine Below.alloc ?_ (by first | exact hsz0 | (simp; omega) | omega) _))) _ _ (by first | exact ownz_at hoF | exact (ownz_at hoF).later ((Below.refl _ _).alloc (Nat.le_refl _) _))).mono ?_; rintro e w7_1 ⟨v, rfl, hoL, hbx1⟩; have hb1 : Below w5.heap.size w5 w7_1 := Below.trans (by repeat (first | exact hb0 | refine Below.alloc ?_ (by first | exact hsz0 | (simp; omega) | omega) _)) (hbx1.mono (by first | exact hsz0 | (simp; omega) | omega)); have hsz1 : w5.heap.size ≤ w7_1.heap.size := hb1.size; (try have bx0_1 : w7_1.heap[w5.heap.size]? = some (.cells #[.int .i64 0, .slice none 0 0] 24 (0, 0)) := blk_later (bx0_0) hbx1); (try have bx1_1 : w7_1.heap[w7_0.heap.size]? = some (.cells #[.int .i64 0, .slice none 0 0] 24 (0, 0)) := blk_later (heap_alloc_new w7_0 _) hbx1); obtain ⟨va, vc, rfl, -, -, -, -⟩ := hoL.form; (try have q0_0 := (pair_cells bx0_1).1); (try have q0_1 := (pair_cells bx0_1).2.1); (try have q0_2 := (pair_cells bx0_1).2.2 0); (try have q0_3 := (pair_cells bx0_1).2.2 1); (try have q1_0 := (pair_cells bx1_1).1); (try have q1_1 := (pair_cells bx1_1).2.1); (try have q1_2 := (pair_cells bx1_1).2.2 0); (try have q1_3 := (pair_cells bx1_1).2.2 1)))
      all_goals
        go_wp2
        go_meet
        first
          | exact ⟨_, _, _, rfl, rfl, Got.new hoL, hb1.alloc hsz1 _⟩
          | exact ⟨_, _, _, rfl, rfl, Got.set bx1_1 hoL (by simp), (hb1.setCell (p := ⟨w7_0.heap.size, 0, none⟩) hsz0 _).setCell (p := ⟨w7_0.heap.size, 1, none⟩) hsz0 _⟩
          | exact ⟨_, _, _, rfl, rfl, Got.set bx0_1 hoL (lt_of_block bx0_0), (hb1.setCell (p := ⟨w5.heap.size, 0, none⟩) (Nat.le_refl _) _).setCell (p := ⟨w5.heap.size, 1, none⟩) (Nat.le_refl _) _⟩
    case rest =>
    obtain ⟨H2, xa, xc, rfl, rfl, hgx, hb⟩ := hcut
    have HGX := Nu.hid hgx
    have HGP := Nu.hid (HGP.out.later hb)
    have HB := Nu.hid (HB.out.trans (hb.mono HB.out.size))
    have HG := Nu.hid (blk_later HG.out hb)
    have HX := Nu.hid (blk_later HX.out hb)
    obtain ⟨w7, rfl⟩ : ∃ w7, w7 = wc := ⟨wc, rfl⟩
    clear hb hgx hsg hsx hpl
    have hsg := lt_of_block HG.out
    have hsx := lt_of_block HX.out
    have hpl := HGP.out.lt
    go_upto_region 8 with fail
    go_cut [11, 12] from 52 to 62 (fun p q wr => ∃ (H : Nat) (va : Option Addr) (vc : Nat), p = .pointer (some ⟨H, 0, none⟩) ∧ q = .int .i64 0 ∧ Got wr H (b : Int) es' va vc ∧ Below w7.heap.size w7 wr)
    case first =>
      have HGZ : Hid (∀ V, Below w7.heap.size w7 V → V.cell? ⟨w.heap.size, 0, none⟩ = some (.int .i64 (a : Int)) ∧ V.cell? ⟨w.heap.size + 1, 0, none⟩ = some (.int .i64 (b : Int)) ∧ V.cell? ⟨H1, 0, none⟩ = some (.int .i64 N1) ∧ V.cell? ⟨H1, 1, none⟩ = some (.slice va L1.length vc)) := fun V hb => ⟨(pair_cells (blk_later HG.out hb)).1, (pair_cells (blk_later HX.out hb)).1, (HGP.out.later hb).cells.1, (HGP.out.later hb).cells.2⟩
      have hSz := HGZ.out _ (Below.refl _ _)
      try dsimp only at hSz
      go_wp2_with fail
      go_region_held3 (fun w' => w'.cell? ⟨w.heap.size, 0, none⟩ = some (.int .i64 (a : Int)) ∧ w'.cell? ⟨w.heap.size + 1, 0, none⟩ = some (.int .i64 (b : Int)) ∧ w'.cell? ⟨H1, 0, none⟩ = some (.int .i64 N1) ∧ w'.cell? ⟨H1, 1, none⟩ = some (.slice va L1.length vc))
        (first | exact hSz | exact HGZ.out _ (by repeat (first | exact Below.refl _ _ | exact hb1 | exact hb0 | refine Below.drew ?_ | refine Below.setCell ?_ (by first | (simp; done) | (simp; omega) | omega) _ | refine Below.alloc ?_ (by first | exact Nat.le_refl _ | (simp; done) | (simp; omega) | omega) _)))
        (first
          | (go_at_call 31; refine (HF.out _ _ _ ha20 hb20).mono ?_; rintro e w8_0 ⟨fa, fc, rfl, hoF, hbx0⟩; have hb0 : Below w7.heap.size w7 w8_0 := Below.trans (by repeat (first | exact Below.refl _ _ | refine Below.drew ?_ | refine Below.alloc ?_ (by first | exact Nat.le_refl _ | (simp; done) | (simp; omega)) _)) (hbx0.mono (by simp)); have hsz0 : w7.heap.size ≤ w8_0.heap.size := hb0.size; (try have bx0_0 : w8_0.heap[w7.heap.size]? = some (.cells #[.int .i64 0, .slice none 0 0] 24 (0, 0)) := blk_later (heap_new_drew w7 _) hbx0))
          | (go_at_call 24; refine (HI2.out _ _ _ (HGP.out.ed.later (by repeat (first | exact hb0 | refine Below.alloc ?_ (by first | exact hsz0 | (simp; omega) | omega) _))) _ _ (by first | exact ownz_at hoF | exact (ownz_at hoF).later ((Below.refl _ _).alloc (Nat.le_refl _) _))).mono ?_; rintro e w8_1 ⟨v, rfl, hoL, hbx1⟩; have hb1 : Below w7.heap.size w7 w8_1 := Below.trans (by repeat (first | exact hb0 | refine Below.alloc ?_ (by first | exact hsz0 | (simp; omega) | omega) _)) (hbx1.mono (by first | exact hsz0 | (simp; omega) | omega)); have hsz1 : w7.heap.size ≤ w8_1.heap.size := hb1.size; (try have bx0_1 : w8_1.heap[w7.heap.size]? = some (.cells #[.int .i64 0, .slice none 0 0] 24 (0, 0)) := blk_later (bx0_0) hbx1); (try have bx1_1 : w8_1.heap[w8_0.heap.size]? = some (.cells #[.int .i64 0, .slice none 0 0] 24 (0, 0)) := blk_later (heap_alloc_new w8_0 _) hbx1); obtain ⟨va, vc, rfl, -, -, -, -⟩ := hoL.form; (try have q0_0 := (pair_cells bx0_1).1); (try have q0_1 := (pair_cells bx0_1).2.1); (try have q0_2 := (pair_cells bx0_1).2.2 0); (try have q0_3 := (pair_cells bx0_1).2.2 1); (try have q1_0 := (pair_cells bx1_1).1); (try have q1_1 := (pair_cells bx1_1).2.1); (try have q1_2 := (pair_cells bx1_1).2.2 0); (try have q1_3 := (pair_cells bx1_1).2.2 1)))
      all_goals
        go_wp2
        go_meet
        first
          | exact ⟨_, _, _, rfl, rfl, Got.new hoL, hb1.alloc hsz1 _⟩
          | exact ⟨_, _, _, rfl, rfl, Got.set bx1_1 hoL (by simp), (hb1.setCell (p := ⟨w8_0.heap.size, 0, none⟩) hsz0 _).setCell (p := ⟨w8_0.heap.size, 1, none⟩) hsz0 _⟩
          | exact ⟨_, _, _, rfl, rfl, Got.set bx0_1 hoL (lt_of_block bx0_0), (hb1.setCell (p := ⟨w7.heap.size, 0, none⟩) (Nat.le_refl _) _).setCell (p := ⟨w7.heap.size, 1, none⟩) (Nat.le_refl _) _⟩
    case rest =>
    obtain ⟨H3, ya, yc, rfl, rfl, hgy, hb⟩ := hcut
    have HGY := Nu.hid hgy
    have HGX := Nu.hid (HGX.out.later hb)
    have HB := Nu.hid (HB.out.trans (hb.mono HB.out.size))
    have HG := Nu.hid (blk_later HG.out hb)
    have HX := Nu.hid (blk_later HX.out hb)
    obtain ⟨w8, rfl⟩ : ∃ w8, w8 = wc := ⟨wc, rfl⟩
    clear hb hgy hsg hsx hpl HGP
    obtain ⟨g0, g1, -⟩ := pair_cells HG.out
    obtain ⟨y0, y1, -⟩ := pair_cells HX.out
    obtain ⟨k0, k1⟩ := HGX.out.cells
    obtain ⟨m0, m1⟩ := HGY.out.cells
    have hsg := lt_of_block HG.out
    have hsx := lt_of_block HX.out
    have hkl := HGX.out.lt
    have hml := HGY.out.lt
    have HS1 := Nu.hid (same_true (a : Int) xa ao xc ca es w8 HGX.out.ed (HAT.out.later HB.out) HGX.out.few)
    go_wp2_with (go_at_call 32; refine HS1.out.mono ?_; rintro e w9 ⟨rfl, hb⟩; refine Hid.out ?_)
    refine Nu.hid ?_
    have HGY := Nu.hid (HGY.out.later hb)
    have HB := Nu.hid (HB.out.trans (hb.mono HB.out.size))
    have HX := Nu.hid (blk_later HX.out hb)
    clear hb g0 g1 y0 y1 k0 k1 m0 m1 hsg hsx hkl hml
    obtain ⟨y0, y1, -⟩ := pair_cells HX.out
    obtain ⟨m0, m1⟩ := HGY.out.cells
    have hsx := lt_of_block HX.out
    have hml := HGY.out.lt
    have HS2 := Nu.hid (same_true (b : Int) ya ao' yc ca' es' w9 HGY.out.ed (HAT'.out.later HB.out) HGY.out.few)
    go_wp2_with (go_at_call 32; refine HS2.out.mono ?_; rintro e w10 ⟨rfl, hb⟩)
    go_ret
    exact ⟨rfl, HB.out.trans (hb.mono HB.out.size)⟩
  · have hcn : (c1 != 0) = true := by simp [hc0]
    have HGD := HGD
    go_wp2_with (go_at_call 19; refine HT.out.mono ?_; rintro e w5 ⟨rfl, hb⟩; refine Hid.out ?_)
    refine Nu.hid ?_
    have HGP := Nu.hid (HGP.out.later hb)
    have HGD := Nu.hid (HGD.out.later hb)
    have HB := Nu.hid (HB.out.trans (hb.mono HB.out.size))
    clear hb HT p0 p1 hpl
    obtain ⟨p0, p1⟩ := HGP.out.cells
    obtain ⟨d0, d1⟩ := HGD.out.cells
    have hpl := HGP.out.lt
    have hdl := HGD.out.lt
    have HT := Nu.hid (HGP.out.told HGD.out c1)
    go_wp2_with (go_at_call 19; refine HT.out.mono ?_; rintro e w6 ⟨rfl, hb⟩)
    go_ret
    exact ⟨rfl, HB.out.trans (hb.mono HB.out.size)⟩

set_option maxRecDepth 100000 in
/-- What the walk gives, for every argument and every world. -/
theorem contract (H : Type) (enc : TypeId × Value → H) (W : World) (base : Nat) (args : Array Value) (ds gs : List (DataW H)) (before : List MemPlace)
    (hval : ∀ (j : Nat) t v, Try.f5.params[j]? = some t → args[j]? = some v → Value.okWide Try.prog W .any base t v)
    (hW : DataW.Whole enc Try.prog Try.f5.params.toList Rows.editBesideSpec.vars false W args.toList ds gs before)
    (hsz : (DataW.weightsEach Try.prog (Try.f5.params.toList ++ (OpenSpec.ofChange Rows.editBesideSpec).bare.plain.varTypes Try.prog) (ds ++ gs)).all (· ≤ reachBytes) = true)
    :
    Calls Try.prog 5 args W fun e W' => ∃ v, e = .returned v ∧ Rows.editBesideSpec.post enc Try.prog Try.f5 false true false false W args v W' := by
  have hW' := hW
  obtain ⟨p, q, hA0, hV, rfl, hfz, hnd⟩ := hW
  have hA : DataW.TrodAll enc Try.prog W 0 (fun _ => true) true Try.f5.params.toList args.toList ds p := hA0
  rw [Try.params5] at hA hval hsz
  obtain ⟨v0, vs0, d0, ds0, p0, q0, hargs, rfl, rfl, h0, r0⟩ := trodAll_cons hA
  obtain ⟨v1, vs1, d1, ds1, p1, q1, rfl, rfl, rfl, h1, r1⟩ := trodAll_cons r0
  obtain ⟨rfl, rfl, rfl⟩ := trodAll_nil r1
  obtain rfl : args = #[v0, v1] := by cases args; simp_all
  obtain ⟨rfl, rfl⟩ := trodVars_none hV
  have k0 := h0
  have lt0 : ∀ x ∈ p0, x.block < W.heap.size := by obtain ⟨m, hm⟩ := k0; exact DataW.trod_lt m _ _ _ hm
  obtain ⟨n0, a0, cap0, q0, rfl, x0, w0, u0⟩ := graph_of_trod (j := 0) (hval 0 24 v0 rfl rfl) h0 hsz rfl rfl
  have k1 := h1
  have lt1 : ∀ x ∈ p1, x.block < W.heap.size := by obtain ⟨m, hm⟩ := k1; exact DataW.trod_lt m _ _ _ hm
  obtain ⟨n1, a1, cap1, q1, rfl, x1, w1, u1⟩ := graph_of_trod (j := 1) (hval 1 24 v1 rfl rfl) h1 hsz rfl rfl
  clear hA0
  refine (walk n0 a0 cap0 q0 n1 a1 cap1 q1 W x0 w0 u0 x1 w1 u1).mono fun e W' ⟨he, bel⟩ => ?_
  subst he
  exact ⟨_, rfl, _, _, _, [], _, [], hW', trodAll_mk1 (shut_bool Try.underlying4 _), (trodAll_cons_mk (Below.trod laidOut (by kernel_rfl) (of_decide_eq_true (by kernel_rfl)) k0 bel lt0) (trodAll_cons_mk (Below.trod laidOut (by kernel_rfl) (of_decide_eq_true (by kernel_rfl)) k1 bel lt1) trodAll_mk0)), rfl, bel.frame _, fun h => by cases h⟩

theorem laid_met (os : Os) : laidMet Try.prog Rows.editBesideRow.laid ((settled os).forCall (fun _ _ => 0) ⟨#[], #[.agg #[.int .i64 0, .slice none 0 0], .agg #[.int .i64 0, .slice none 0 0]], []⟩).memory :=
  laidMet_of_run' 100 (by kernel_rfl) (by kernel_rfl)
theorem reads (os : Os) {H : Type} (enc : TypeId × Value → H) : ∃ places, DataW.whole enc Try.prog ((settled os).forCall (fun _ _ => 0) ⟨#[], #[.agg #[.int .i64 0, .slice none 0 0], .agg #[.int .i64 0, .slice none 0 0]], []⟩).memory Try.f5.params.toList Rows.editBesideSpec.vars false (#[.agg #[.int .i64 0, .slice none 0 0], .agg #[.int .i64 0, .slice none 0 0]] : Array Value).toList 8 = some ([.agg [.lit (.int .i64 0), .nil], .agg [.lit (.int .i64 0), .nil]], [], places) :=
  ⟨[], by kernel_rfl⟩

set_option maxRecDepth 100000 in
theorem lifted (os : Os) (started : os.Started) (H : Type) (enc : TypeId × Value → H) (F : Stop.Interp) :
    ReturnsInHanded {} Try.checked os 5 .any ((OpenSpec.ofChange Rows.editBesideSpec).preRow enc Try.prog Try.f5 Rows.editBesideRow.domain false Rows.editBesideRow.laid) (((OpenSpec.ofChange Rows.editBesideSpec).at F).post enc Try.prog Try.f5 false true false false) := by
  obtain ⟨places, hx⟩ := reads os enc
  refine returnsInHanded_of_row (C := Try.checked) (s := (OpenSpec.ofChange Rows.editBesideSpec)) own started (by kernel_rfl) Try.func5
    (witness_row_at (enc := enc) (C := Try.checked) false (settled os) #[.agg #[.int .i64 0, .slice none 0 0], .agg #[.int .i64 0, .slice none 0 0]] rfl (by kernel_rfl) (by kernel_rfl) (by kernel_rfl)
      (OpenSpec.preRow_of_cond 8 hx (by kernel_rfl) (fun k hk => by cases hk) (by kernel_rfl) (laid_met os))) ?_
  intro W base args ds gs before hval hW _ _ hsz _ _ _
  exact contract H enc W base args ds gs before hval hW hsz 

theorem said : Rows.EditBesideSaid :=
  OpenClaim.holds_of_cond 5 Try.f5 rfl rfl rfl rfl rfl rfl rfl ⟨rfl, rfl, rfl, rfl, rfl⟩ rfl rfl rfl rfl rfl (by kernel_rfl) Try.func5 (by kernel_rfl)
    (of_decide_eq_true (by kernel_rfl)) (by unfold Func.isWrapper; first | (rw [if_pos (by decide +kernel)]; kernel_rfl) | (rw [if_neg (by decide +kernel)]; exact ⟨rfl, rfl⟩))
    (fun os started H enc _ F => by rw [OpenClaim.pre_eq_preRow]; exact lifted os started H enc F)

end lawEB

theorem editBeside_holds : Rows.EditBesideSaid := lawEB.said

#print axioms editBeside_holds
end Go.Proofs.Ytdkckdbpbdhoaaa
