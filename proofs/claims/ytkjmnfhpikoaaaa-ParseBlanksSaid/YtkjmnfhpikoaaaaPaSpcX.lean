/-
  What the statement's own spaced answers.
-/
import Derived.Test.YtkjmnfhpikoaaaaPaSpcW
namespace Go.Proofs.Ytkjmnfhpikoaaaa
open Go.RowKit

theorem HasI.below' {w w' : World} {ao : Option Addr} {n B : Nat} {z : Nat → Int} (h : HasI w ao n z) (hb : Below B w w') (hB : w.heap.size = B) : HasI w' ao n z := by
  subst hB
  exact h.below hb

theorem HasText.below' {w w' : World} {ao : Option Addr} {n B : Nat} {g : Nat → Int} (h : HasText w ao n g) (hb : Below B w w') (hB : w.heap.size = B) : HasText w' ao n g := by
  subst hB
  exact h.later hb

theorem row_base {w : World} {B A : Nat} {e : TypeId} {size n : Nat} {v : Value} {xs : List Value} (h : w.ownsRow B e size v n xs) (hA : A ≤ B) : w.ownsRow A e size v n xs := by
  refine ⟨h.1, ?_⟩
  rcases h.2 with h | ⟨g, cap, cur, e, hgB, hr⟩
  · exact .inl h
  · exact .inr ⟨g, cap, cur, e, by omega, hr⟩

theorem new_u8 (W : World) (k : Nat) (hk : W.heap.size = k) (a : Value) : ∀ j u, [a][j]? = some u → (W.alloc (.cells #[a] 5)).cell? ((⟨k, 0, none⟩ : Addr).add j) = some u := by
  subst hk
  exact World.news_of_block (cs := #[a]) (t := 5) (fr := (0, 0)) (heap_alloc_new W _)

theorem byte_app (a b : List UInt8) : Lib.byteCells (a ++ b) = Lib.byteCells a ++ Lib.byteCells b := by simp [Lib.byteCells]

theorem SInv.alloc {N kb : Nat} {W0 wr : World} {c : Nat} {vo va : Value} {O : List UInt8} {A : List Nat} (h : SInv N kb W0 wr c vo va O A) (x : Obj) : SInv N kb W0 (wr.alloc x) c vo va O A :=
  ⟨h.bel.alloc (by have := lt_of_block h.cnt; have := h.low; omega) x, (Below.heap_alloc wr x kb (lt_of_block h.cnt)).trans h.cnt, h.out.alloc x, h.at'.alloc x, h.far, h.low⟩

theorem str_bytes (L : List UInt8) : Lib.strCells ⟨L.toArray⟩ = Lib.byteCells L := by simp [Lib.strCells, Lib.byteCells]

set_option maxRecDepth 100000 in
set_option maxHeartbeats 4000000 in
theorem spaced_any (ao : Option Addr) (len cap : Nat) (g : Nat → Int) (bo : Option Addr) (blen bcap : Nat) (z : Nat → Int) (w : World) (ht : HasText w ao len g) (hlen : len ≤ 100000) (hz : HasI w bo blen z) (hbl : blen ≤ 140737488355328) :
    Calls Try.prog 11 #[.slice ao len cap, .slice bo blen bcap] w fun e w' => Below w.heap.size w w' ∧ ∃ vo va O A, e = .returned (.tuple #[vo, va]) ∧ Pa.Spc g len O A ∧
      w'.ownsRow w.heap.size 5 1 vo O.length (Lib.byteCells O) ∧ w'.ownsRow w.heap.size 3 1 va (len + 1) (natCells (A ++ [O.length])) := by
  obtain ⟨i1, ii, iz0, iz1, iz2⟩ := info_parts Try.infoI64
  obtain ⟨u1, ui, uz0, uz1, uz2⟩ := info_parts Try.infoU8
  have HT := Nu.hid ht
  have HZ := Nu.hid hz
  clear ht hz
  have hmf : ∀ (fn : Fn) (first cap : Array Value) (w : World), (Instr.makeFunc fn first cap).run Try.prog w = .ok (.func fn first cap) w := fun _ _ _ _ => rfl
  go_enter Try.func11, Try.ntmps11
  go_wp2_with (at_make; refine wpList_make_own _ rfl _ _ 32 rfl (w.heap.size + 3) 3 i1 (.int .i64 0) 1 Try.underlying32 ii iz0 iz1 .i64 .i64 _ (len + 1) rfl rfl (by simp) (by rw [iz2]; omega) (by unfold maxLen; omega) (by simp) ?_; intro w1 hown1 hg1; refine Hid.out ?_)
  refine Nu.hid ?_
  have hW0 : ∃ W0, W0 = ((w.alloc (.cells #[.slice bo blen bcap] 32)).alloc (.cells #[strV [32], strV [9], strV [13], strV [32, 9, 32], strV []] 9)).alloc (.cells #[strV [10], strV [32, 10], strV [10, 10], strV [13], strV [10, 32, 9, 10], strV []] 9) := ⟨_, rfl⟩
  obtain ⟨W0, hW0⟩ := hW0
  have hg1' : W0.grownBy w1 none := by rw [hW0]; exact hg1
  have hs0 : W0.heap.size = w.heap.size + 3 := by rw [hW0]; simp
  have hb0 : Below w.heap.size w W0 := by rw [hW0]; exact (((Below.refl _ _).alloc (Nat.le_refl _) _).alloc (by simp) _).alloc (by simp; omega) _
  have t0 : W0.heap[w.heap.size]? = some (.cells #[.slice bo blen bcap] 32 (0, 0)) := by
    rw [hW0, Below.heap_alloc _ _ _ (by simp; omega), Below.heap_alloc _ _ _ (by simp)]
    exact heap_alloc_new w _
  have t1 : W0.heap[w.heap.size + 1]? = some (.cells #[strV [32], strV [9], strV [13], strV [32, 9, 32], strV []] 9 (0, 0)) := by
    rw [hW0, Below.heap_alloc _ _ _ (by simp)]
    have := heap_alloc_new (w.alloc (.cells #[.slice bo blen bcap] 32)) (.cells #[strV [32], strV [9], strV [13], strV [32, 9, 32], strV []] 9)
    rwa [World.size_alloc] at this
  have t2 : W0.heap[w.heap.size + 2]? = some (.cells #[strV [10], strV [32, 10], strV [10, 10], strV [13], strV [10, 32, 9, 10], strV []] 9 (0, 0)) := by
    rw [hW0]
    have := heap_alloc_new ((w.alloc (.cells #[.slice bo blen bcap] 32)).alloc (.cells #[strV [32], strV [9], strV [13], strV [32, 9, 32], strV []] 9)) (.cells #[strV [10], strV [32, 10], strV [10, 10], strV [13], strV [10, 32, 9, 10], strV []] 9)
    rwa [World.size_alloc, World.size_alloc] at this
  have hva : w1.ownsRow (w.heap.size + 3) 3 1 (.slice (some ⟨w.heap.size + 1 + 1 + 1, 0, none⟩) 0 (len + 1)) 0 [] := by
    have := hown1
    simp only [World.size_alloc] at this
    exact this
  have hlt1 := (hva.lt (w.heap.size + 3) rfl).2
  have hb01 : Below (w.heap.size + 3) W0 w1 := ⟨hg1'.os, hg1'.tape, hg1'.output, hg1'.size, fun k hk => hg1'.block k (by omega) (by simp)⟩
  have hsi : SInv w.heap.size w1.heap.size W0 (w1.alloc (.cells #[.int .i64 0] 3)) 0 (.slice none 0 0) (.slice (some ⟨w.heap.size + 1 + 1 + 1, 0, none⟩) 0 (len + 1)) [] [] := by
    refine ⟨hb01.alloc (by omega) _, heap_alloc_new w1 _, World.ownsRow_nil _ _ _ _, World.ownsRow.alloc hva _, ?_, by omega⟩
    simp [Value.ownBlock]
    omega
  have HSI := Nu.hid hsi
  have HB0 := Nu.hid hb0
  have T0 := Nu.hid t0
  have T1 := Nu.hid t1
  have T2 := Nu.hid t2
  have HS0 := Nu.hid hs0
  have tick : ∀ (wr : World) (c : Nat) (vo va : Value) (O : List UInt8) (A : List Nat), SInv w.heap.size w1.heap.size W0 wr c vo va O A → c ≤ 1000000 →
      Calls Try.prog 17 #[.pointer (some ⟨w1.heap.size, 0, none⟩), .pointer (some ⟨w.heap.size, 0, none⟩)] wr (TickPost w1.heap.size c wr) := fun wr c vo va O A h hc => by
    refine tick_any w1.heap.size w.heap.size c bo blen bcap z wr h.cnt ((h.bel.cell (p := ⟨w.heap.size, 0, none⟩) (by simp)).trans (cell_of_one t0)) ((HZ.out.below hb0).below' h.bel hs0) hc hbl (by omega) (fun x hx hl => ?_)
    obtain ⟨_, tb, to, e, hcz⟩ := HZ.out 0 hl
    rw [hx] at e
    cases e
    have := block_lt_of_cell hcz
    dsimp only at this ⊢
    omega
  have TICK := Nu.hid tick
  clear tick
  clear hW0 hg1 hg1' hs0 hb0 t0 t1 t2 hva hb01 hsi hown1
  go_wp2_with (go_at_call 17; refine (TICK.out _ 0 _ _ _ _ HSI.out (by omega)).mono ?_; refine Hid.out ?_)
  refine Nu.hid ?_
  rintro e w2 ⟨r, nq, hr, rfl, rfl⟩
  have hsi2 := (HSI.out.tick 1).drewN nq
  generalize ((w1.alloc (.cells #[.int .i64 0] 3)).setCell ⟨w1.heap.size, 0, none⟩ (.int .i64 (0 + 1 : Nat))).drewN nq = X at hsi2 ⊢
  have hm6 : (r : Int) % 6 = ((r % 6 : Nat) : Int) := by omega
  have hj6 : r % 6 < 6 := by omega
  generalize r % 6 = j at hm6 hj6
  have m0 : (0 : Int) ≤ (j : Int) := by omega
  have m1 : (j : Int) < 6 := by omega
  have cj : X.cell? ⟨w.heap.size + 1 + 1, j, none⟩ = some (.string ⟨(Pa.eol j).toArray⟩) := (hsi2.bel.cell (p := ⟨w.heap.size + 1 + 1, j, none⟩) (by simp)).trans (eol_cells T2.out j hj6)
  have HSI2 := Nu.hid hsi2
  have hkX := lt_of_block hsi2.cnt
  have hes := Pa.eol_short j
  have hsz : (⟨(Pa.eol j).toArray⟩ : ByteArray).size = (Pa.eol j).length := by simp [ByteArray.size]
  have HSZ := Nu.hid hsz
  clear hsi2 hsz
  go_wp2_with (at_builtin; refine Lib.wpList_append_own_string X rfl _ _ 22 9 rfl (w1.heap.size + 1) 5 u1 Try.underlying22 Try.underlying9 ui uz0 uz1 uz2 (.slice none 0 0) 0 [] rfl (World.ownsRow_nil _ _ _ _) ⟨(Pa.eol j).toArray⟩ rfl (by rw [HSZ.out]; unfold maxLen; omega) (by rw [HSZ.out]; omega) (by omega) ?_; refine Hid.out ?_)
  refine Nu.hid ?_
  intro vo3 w3 hown3 hg3 _
  have hsi3 : SInv w.heap.size w1.heap.size W0 w3 1 vo3 (.slice (some ⟨w.heap.size + 1 + 1 + 1, 0, none⟩) 0 (len + 1)) (Pa.eol j) [] := HSI2.out.grow (by rw [str_bytes] at hown3; exact hown3) hg3
  have HSI3 := Nu.hid hsi3
  have HSPC := Nu.hid (Pa.Spc.start g j hj6)
  clear hown3 hg3 hsi3 cj hm6 m0 m1 hes
  go_wp2
  go_loopw [8, 9, 31] (fun vo va c wr => ∃ (k cnt : Nat) (O : List UInt8) (A : List Nat), k ≤ len ∧ c = .int .i64 k ∧ cnt ≤ k + 1 ∧ Pa.Spc g k O A ∧ SInv w.heap.size w1.heap.size W0 wr cnt vo va O A) (fun _ _ c _ => len - (intOf c).toNat)
  case atStart => exact ⟨0, 1, Pa.eol j, [], Nat.zero_le _, rfl, Nat.le_refl _, HSPC.out, HSI3.out⟩
  case round =>
    obtain ⟨k, cnt, O, A, hk, rfl, hcnt, hspc, hsi⟩ := hrel
    have hOl := hspc.small
    have hAl : A.length ≤ k := Nat.le_of_eq hspc.len
    have hsz := lt_of_block hsi.cnt
    have hlow := hsi.low
    obtain ⟨oa, oc, rfl⟩ : ∃ oa oc, u8 = Value.slice oa O.length oc := by
      rcases hsi.out.2 with ⟨h, h0⟩ | ⟨g', c', _, h, _⟩
      · exact ⟨none, 0, by rw [h, h0]⟩
      · exact ⟨_, _, h⟩
    have HSIK := Nu.hid hsi
    have HSPCK := Nu.hid hspc
    by_cases hlt : k < len
    · have hlti : (k : Int) < (len : Int) := by omega
      have hk0 : (0 : Int) ≤ (k : Int) := by omega
      have htx : HasText wr ao len g := (HT.out.later HB0.out).below' hsi.bel HS0.out
      obtain ⟨⟨b0, b1⟩, tb, to, rfl, cq⟩ := htx k hlt
      have htb : tb < wr.heap.size := block_lt_of_cell cq
      obtain ⟨c, hc⟩ : ∃ c : UInt8, (c.toNat : Int) = g k := ⟨UInt8.ofNat (g k).toNat, by simp; omega⟩
      have HC := Nu.hid hc
      clear hsi hspc htx
      go_wp2_with (at_builtin; refine wpList_append_own_at _ rfl _ _ 32 rfl (w.heap.size + 3) 3 i1 (.int .i64 0) 1 8 Try.underlying32 ii iz0 iz1 iz2 rfl (by decide) u9 _ _ rfl (World.ownsRow.alloc HSIK.out.at' _) ⟨wr.heap.size, 0, none⟩ 1 1 [.int .i64 O.length] rfl rfl (newI wr _ rfl _) (by simp [Value.oneCell']) (by unfold maxLen; omega) (by omega) (by simp; omega) ?_; refine Hid.out ?_)
      refine Nu.hid ?_
      intro va4 w4 hown4 hg4 _ hat4
      have hsi4 : SInv w.heap.size w1.heap.size W0 w4 cnt (.slice oa O.length oc) va4 O (A ++ [O.length]) := HSIK.out.place (by unfold natCells; rw [List.map_append, List.length_append]; exact hown4) hg4 hat4
      have hsz4 := lt_of_block hsi4.cnt
      have HSI4 := Nu.hid hsi4
      clear hown4 hg4 hat4 hsi4
      go_wp2_with (at_builtin; refine wpList_append_own _ rfl _ _ 22 rfl (w1.heap.size + 1) 5 u1 (.int .u8 0) 1 1 Try.underlying22 ui uz0 uz1 uz2 rfl (by decide) (.slice oa O.length oc) O.length (Lib.byteCells O) rfl (World.ownsRow.alloc HSI4.out.out _) ⟨w4.heap.size, 0, none⟩ 1 1 [.int .u8 (g k)] rfl rfl (new_u8 w4 _ rfl _) (by simp [Value.oneCell']) (by unfold maxLen; omega) (by omega) (by simp; omega) ?_; refine Hid.out ?_)
      refine Nu.hid ?_
      intro vo5 w5 hown5 hg5 _
      have hsi5 : SInv w.heap.size w1.heap.size W0 w5 cnt vo5 va4 (O ++ [c]) (A ++ [O.length]) := (HSI4.out.alloc _).grow (by
        rw [byte_app, List.length_append]
        have e : Lib.byteCells [c] = [.int .u8 (g k)] := by simp [Lib.byteCells, HC.out]
        rw [e]
        exact hown5) hg5
      have hsz5 := lt_of_block hsi5.cnt
      have HSI5 := Nu.hid hsi5
      have HOC : Hid ((O ++ [c]).length = O.length + 1) := Nu.hid (by simp)
      clear hown5 hg5 hsi5
      by_cases h32 : g k = 32
      · have q32 : (g k == 32) = true := by simp [h32]
        have q10 : (g k == 10) = false := by simp [h32]
        have H32 := Nu.hid h32
        clear h32
        go_wp2_with (go_at_call 17; refine (TICK.out _ cnt _ _ _ _ HSI5.out (by omega)).mono ?_; refine Hid.out ?_)
        refine Nu.hid ?_
        rintro e w6 ⟨r, nq, hr, rfl, rfl⟩
        have hsi6 := (HSI5.out.tick (cnt + 1)).drewN nq
        generalize (w5.setCell ⟨w1.heap.size, 0, none⟩ (.int .i64 (cnt + 1 : Nat))).drewN nq = Y at hsi6 ⊢
        have hmj : (r : Int) % 5 = ((r % 5 : Nat) : Int) := by omega
        have hjl : r % 5 < 5 := by omega
        generalize r % 5 = i at hmj hjl
        have m0 : (0 : Int) ≤ (i : Int) := by omega
        have m1 : (i : Int) < 5 := by omega
        have ci : Y.cell? ⟨w.heap.size + 1, i, none⟩ = some (.string ⟨(Pa.blk i).toArray⟩) := (hsi6.bel.cell (p := ⟨w.heap.size + 1, i, none⟩) (by simp)).trans (blk_cells T1.out i hjl)
        have hes := Pa.blk_short i
        have hszi : (⟨(Pa.blk i).toArray⟩ : ByteArray).size = (Pa.blk i).length := by simp [ByteArray.size]
        have HSZI := Nu.hid hszi
        have hsz6 := lt_of_block hsi6.cnt
        have HSI6 := Nu.hid hsi6
        clear hsi6 hszi
        go_wp2_with (at_builtin; refine Lib.wpList_append_own_string Y rfl _ _ 22 9 rfl (w1.heap.size + 1) 5 u1 Try.underlying22 Try.underlying9 ui uz0 uz1 uz2 vo5 (O ++ [c]).length (Lib.byteCells (O ++ [c])) rfl HSI6.out.out ⟨(Pa.blk i).toArray⟩ rfl (by rw [HSZI.out, HOC.out]; unfold maxLen; omega) (by rw [HSZI.out, HOC.out]; omega) (by omega) ?_; refine Hid.out ?_)
        refine Nu.hid ?_
        intro vo7 w7 hown7 hg7 _
        have hsi7 : SInv w.heap.size w1.heap.size W0 w7 (cnt + 1) vo7 va4 (O ++ [c] ++ Pa.blk i) (A ++ [O.length]) := HSI6.out.grow (by
          rw [str_bytes] at hown7
          rw [byte_app (O ++ [c]), show (O ++ [c] ++ Pa.blk i).length = O.length + 1 + (Pa.blk i).length by simp only [List.length_append, List.length_cons, List.length_nil]]
          exact hown7) hg7
        have HSI7 := Nu.hid hsi7
        clear hown7 hg7 hsi7 ci hmj m0 m1
        go_wp2
        go_roundw
        case rel => exact ⟨k + 1, cnt + 1, _, _, by omega, by go_num, by omega, HSPCK.out.step HC.out (by omega) (fun d hd => ⟨.inl (Pa.blk_all i hjl d hd), .inl H32.out⟩) (fun _ d hd => Pa.blk_all i hjl d hd), HSI7.out⟩
        case measure => simp [intOf]; omega
      · by_cases h10 : g k = 10
        · have q32 : (g k == 32) = false := by simp [h32]
          have q10 : (g k == 10) = true := by simp [h10]
          have H10 := Nu.hid h10
          have H32 := Nu.hid h32
          clear h10 h32
          go_wp2_with (go_at_call 17; refine (TICK.out _ cnt _ _ _ _ HSI5.out (by omega)).mono ?_; refine Hid.out ?_)
          refine Nu.hid ?_
          rintro e w6 ⟨r, nq, hr, rfl, rfl⟩
          have hsi6 := (HSI5.out.tick (cnt + 1)).drewN nq
          generalize (w5.setCell ⟨w1.heap.size, 0, none⟩ (.int .i64 (cnt + 1 : Nat))).drewN nq = Y at hsi6 ⊢
          have hmj : (r : Int) % 6 = ((r % 6 : Nat) : Int) := by omega
          have hjl : r % 6 < 6 := by omega
          generalize r % 6 = i at hmj hjl
          have m0 : (0 : Int) ≤ (i : Int) := by omega
          have m1 : (i : Int) < 6 := by omega
          have ci : Y.cell? ⟨w.heap.size + 1 + 1, i, none⟩ = some (.string ⟨(Pa.eol i).toArray⟩) := (hsi6.bel.cell (p := ⟨w.heap.size + 1 + 1, i, none⟩) (by simp)).trans (eol_cells T2.out i hjl)
          have hes := Pa.eol_short i
          have hszi : (⟨(Pa.eol i).toArray⟩ : ByteArray).size = (Pa.eol i).length := by simp [ByteArray.size]
          have HSZI := Nu.hid hszi
          have hsz6 := lt_of_block hsi6.cnt
          have HSI6 := Nu.hid hsi6
          clear hsi6 hszi
          go_wp2_with (at_builtin; refine Lib.wpList_append_own_string Y rfl _ _ 22 9 rfl (w1.heap.size + 1) 5 u1 Try.underlying22 Try.underlying9 ui uz0 uz1 uz2 vo5 (O ++ [c]).length (Lib.byteCells (O ++ [c])) rfl HSI6.out.out ⟨(Pa.eol i).toArray⟩ rfl (by rw [HSZI.out, HOC.out]; unfold maxLen; omega) (by rw [HSZI.out, HOC.out]; omega) (by omega) ?_; refine Hid.out ?_)
          refine Nu.hid ?_
          intro vo7 w7 hown7 hg7 _
          have hsi7 : SInv w.heap.size w1.heap.size W0 w7 (cnt + 1) vo7 va4 (O ++ [c] ++ Pa.eol i) (A ++ [O.length]) := HSI6.out.grow (by
            rw [str_bytes] at hown7
            rw [byte_app (O ++ [c]), show (O ++ [c] ++ Pa.eol i).length = O.length + 1 + (Pa.eol i).length by simp only [List.length_append, List.length_cons, List.length_nil]]
            exact hown7) hg7
          have HSI7 := Nu.hid hsi7
          clear hown7 hg7 hsi7 ci hmj m0 m1
          go_wp2
          go_roundw
          case rel => exact ⟨k + 1, cnt + 1, _, _, by omega, by go_num, by omega, HSPCK.out.step HC.out (by omega) (fun d hd => ⟨Pa.eol_all i hjl d hd, .inr H10.out⟩) (fun h => absurd h H32.out), HSI7.out⟩
          case measure => simp [intOf]; omega
        · have q32 : (g k == 32) = false := by simp [h32]
          have q10 : (g k == 10) = false := by simp [h10]
          have H32 := Nu.hid h32
          clear h10 h32
          go_wp2
          go_roundw
          case rel => exact ⟨k + 1, cnt, O ++ [c], A ++ [O.length], by omega, by go_num, by omega, by simpa using HSPCK.out.step (x := []) HC.out (by simp) (fun d hd => by cases hd) (fun h => absurd h H32.out), HSI5.out⟩
          case measure => simp [intOf]; omega
    · have hd : ¬ ((k : Int) < (len : Int)) := by omega
      have hkn : k = len := by omega
      subst hkn
      have hAe := hspc.len
      have HAE := Nu.hid hAe
      clear hsi hspc hAe
      go_wp2_with (at_builtin; refine wpList_append_own_at _ rfl _ _ 32 rfl (w.heap.size + 3) 3 i1 (.int .i64 0) 1 8 Try.underlying32 ii iz0 iz1 iz2 rfl (by decide) u9 _ _ rfl (World.ownsRow.alloc HSIK.out.at' _) ⟨wr.heap.size, 0, none⟩ 1 1 [.int .i64 O.length] rfl rfl (newI wr _ rfl _) (by simp [Value.oneCell']) (by unfold maxLen; omega) (by omega) (by simp; omega) ?_; refine Hid.out ?_)
      refine Nu.hid ?_
      intro va4 w4 hown4 hg4 _ hat4
      have hsi4 : SInv w.heap.size w1.heap.size W0 w4 cnt (.slice oa O.length oc) va4 O (A ++ [O.length]) := HSIK.out.place (by unfold natCells; rw [List.map_append, List.length_append]; exact hown4) hg4 hat4
      have HSI4 := Nu.hid hsi4
      clear hown4 hg4 hat4 hsi4
      go_wp2
      go_ret2
      refine ⟨HB0.out.trans (HSI4.out.bel.mono (by omega)), _, _, O, A, rfl, HSPCK.out, row_base HSI4.out.out (by omega), ?_⟩
      have e : (A ++ [O.length]).length = k + 1 := by rw [List.length_append, HAE.out]; rfl
      have := row_base HSI4.out.at' (A := w.heap.size) (by omega)
      rw [e] at this
      exact this

end Go.Proofs.Ytkjmnfhpikoaaaa
