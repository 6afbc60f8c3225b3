import Derived.Test.YtodlejemkihjnaaDoorMg10
import Derived.Test.YtodlejemkihjnaaDoorMg11
import Derived.Test.YtodlejemkihjnaaDoorMg09
/-
  The document's Copy of a certificate.
-/
namespace Go.Proofs.YtodlejemkihjnaaDoor
open Go.RowKit

/-- Lists that can be read, each with its room. -/
def Ce.LstsAt (w : World) (ao : Option Addr) (ls : List (List Int)) : Prop := ∀ (k : Nat) (l : List Int), ls[k]? = some l → ∃ b o xa xc, ao = some ⟨b, o, none⟩ ∧ w.cell? ⟨b, o + k, none⟩ = some (.slice xa l.length xc) ∧ Lst w xa l.length xc l ∧ l.length ≤ 17592186043904
theorem Ce.LstsAt.later {w w' : World} {ao : Option Addr} {ls : List (List Int)} (h : Ce.LstsAt w ao ls) (hb : Below w.heap.size w w') : Ce.LstsAt w' ao ls := fun k l hl => by
  obtain ⟨b, o, xa, xc, e, hc, hs, hn⟩ := h k l hl
  exact ⟨b, o, xa, xc, e, (hb.cell (p := ⟨b, o + k, none⟩) (block_lt_of_cell hc)).trans hc, hs.later hb, hn⟩
theorem Ce.LstsAt.lists {w : World} {ao : Option Addr} {ls : List (List Int)} (h : Ce.LstsAt w ao ls) : Ce.ListsAt w ao ls := fun k l hl => by
  obtain ⟨b, o, xa, xc, e, hc, hs, hn⟩ := h k l hl
  exact ⟨b, o, xa, xc, e, hc, hs.ints⟩
/-- What is of another kind lies in another block. -/
theorem own_ne {W : World} {B : Nat} {e t : TypeId} {s n b : Nat} {v : Value} {xs : List Value} {arr : Array Value} {fr : Nat × Nat} (h : W.ownsRow B e s v n xs) (hb : W.heap[b]? = some (.cells arr t fr)) (hne : e ≠ t) : v.ownBlock ≠ some b := fun e' => by
  rcases h.2 with ⟨rfl, -⟩ | ⟨g, cap, cur, rfl, -, hg, -⟩
  · cases e'
  · obtain rfl : g = b := by simpa [Value.ownBlock] using e'
    rw [hb] at hg
    cases hg
    exact hne rfl

/-- Copy's memory while the lists are copied: the first k of them are. -/
structure CyL (w : World) (H : Nat) (pl : Bool) (ao : Option Addr) (n ca : Nat) (eo : Option Addr) (m ce : Nat) (es : List (Int × Int)) (a : Option Addr) (c : Nat) (va : Value) (vs : List Value) (l : List (List Int)) (W : World) : Prop where
  low : Below w.heap.size w W
  hH : w.heap.size + 2 ≤ H
  box : W.heap[w.heap.size]? = some (.cells #[.bool pl, .slice ao n ca, .slice eo m ce] 25 (0, 0))
  res : W.heap[w.heap.size + 1]? = some (.cells #[.bool false, .slice none 0 0, .slice none 0 0] 25 (0, 0))
  out : W.heap[H]? = some (.cells #[.bool pl, va, .slice a es.length c] 25 (0, 0))
  rows : RowsZ W (w.heap.size + 2) va vs l
  edges : OwnE W (w.heap.size + 2) (.slice a es.length c) es
section
variable {w W W' : World} {H : Nat} {pl : Bool} {ao : Option Addr} {n ca : Nat} {eo : Option Addr} {m ce : Nat} {es : List (Int × Int)} {a : Option Addr} {c : Nat} {va : Value} {vs : List Value} {ls : List (List Int)}
theorem CyL.later (h : CyL w H pl ao n ca eo m ce es a c va vs ls W) (hb : Below W.heap.size W W') : CyL w H pl ao n ca eo m ce es a c va vs ls W' :=
  ⟨h.low.trans (hb.mono h.low.size), h.hH, blk_later17 h.box hb, blk_later17 h.res hb, blk_later17 h.out hb, h.rows.later hb, h.edges.below hb (Nat.le_refl _)⟩
theorem CyL.size (h : CyL w H pl ao n ca eo m ce es a c va vs ls W) : w.heap.size + 2 ≤ W.heap.size := by
  have := lt_of_block h.res
  omega
/-- One list more has been appended, and it is not stored yet. -/
theorem CyL.push (h : CyL w H pl ao n ca eo m ce es a c va vs ls W) {x va' : Value} {l : List Int} {w4 : World} (hx : OwnZ W (w.heap.size + 2) x l) (hx1 : ∀ (u : Nat) (y : Value) (b : Nat), vs[u]? = some y → y.ownBlock = some b → x.ownBlock ≠ some b)
    (h1 : w4.ownsRow (w.heap.size + 2) 39 1 va' (ls.length + 1) (vs ++ [x])) (h2 : (W.alloc (.cells #[x] 39)).grownBy w4 va.ownBlock) (h3 : va'.ownBlock = va.ownBlock ∨ va'.ownBlock = some (W.heap.size + 1)) :
    CyL w H pl ao n ca eo m ce es a c va' (vs ++ [x]) (ls ++ [l]) (w4.setCell ⟨H, 1, none⟩ va') ∧ w4.cell? ⟨w.heap.size, 1, none⟩ = some (.slice ao n ca) ∧ w4.cell? ⟨H, 1, none⟩ = some va ∧ w4.frozen? ⟨H, 1, none⟩ = false ∧ Below w.heap.size w w4 := by
  have hU := h.later ((Below.refl W.heap.size W).alloc (Nat.le_refl _) (.cells #[x] 39))
  have hlow : ∀ b, va.ownBlock = some b → w.heap.size + 2 ≤ b := fun b hb => (World.ownsRow.lt h.rows.outer b hb).1
  have fH := own_ne hU.rows.outer hU.out (show (39 : TypeId) ≠ 25 by decide)
  have kC := (h2.block _ (lt_of_block hU.box) (fun e => by have := hlow _ e.symm; omega)).trans hU.box
  have kR := (h2.block _ (lt_of_block hU.res) (fun e => by have := hlow _ e.symm; omega)).trans hU.res
  have kH := (h2.block _ (lt_of_block hU.out) (fun e => fH e.symm)).trans hU.out
  have hH := h.hH
  have hx2 : ∀ b, va.ownBlock = some b → x.ownBlock ≠ some b := fun b hb hc => by
    rcases hx.2 with ⟨rfl, -⟩ | ⟨g, cap, cur, rfl, -, hg, -⟩
    · cases hc
    · obtain rfl : g = b := by simpa [Value.ownBlock] using hc
      exact own_ne h.rows.outer hg (by decide) hb
  have hr := h.rows.grow hx hx1 hx2 h1 h2 h3
  have hb4 : Below w.heap.size w w4 := hU.low.grown h2 (by have := hU.low.size; omega) (fun b hb => by have := hlow b hb; omega)
  have ho4 : OwnE w4 (w.heap.size + 2) (.slice a es.length c) es := row_same hU.edges fun g hg _ hl => h2.block g hl (fun e => by
    rcases hU.edges.2 with ⟨e1, -⟩ | ⟨g', cap, cur, e1, -, hg', -⟩
    · rw [e1] at hg; cases hg
    · rw [e1] at hg
      obtain rfl : g' = g := by simpa [Value.ownBlock] using hg
      exact own_ne hU.rows.outer hg' (by decide) e.symm)
  refine ⟨⟨hb4.setCell (p := ⟨H, 1, none⟩) (by dsimp only; omega) _, hH, ?_, ?_, ?_, ?_, ?_⟩, (three_cells17 kC).2.1, (three_cells17 kH).2.1, (three_cells17 kH).2.2.2 _, hb4⟩
  · rw [heap_setCell_other _ ⟨H, 1, none⟩ _ _ (by dsimp only; omega)]; exact kC
  · rw [heap_setCell_other _ ⟨H, 1, none⟩ _ _ (by dsimp only; omega)]; exact kR
  · rw [heap_setCell_same w4 H 1 _ _ _ kH]; simp
  · have fo := own_ne hr.outer kH (show (39 : TypeId) ≠ 25 by decide)
    have hs : ∀ g, g ≠ H → (w4.setCell ⟨H, 1, none⟩ va').heap[g]? = w4.heap[g]? := fun g hg => heap_setCell_other _ ⟨H, 1, none⟩ g _ hg
    refine ⟨hr.len, row_same hr.outer fun g hg _ _ => hs g (fun e => fo (by rw [hg, e])), fun u y k hy hk => row_same (hr.row u y k hy hk) fun g hg _ _ => hs g (fun e => ?_), hr.apart, hr.far⟩
    exact own_ne (hr.row u y k hy hk) kH (show (3 : TypeId) ≠ 25 by decide) (by rw [hg, e])
  · exact row_same ho4 fun g hg _ _ => heap_setCell_other _ ⟨H, 1, none⟩ g _ (fun e => own_ne ho4 kH (show (41 : TypeId) ≠ 25 by decide) (by rw [hg, e]))
end

set_option maxRecDepth 100000 in
set_option maxHeartbeats 4000000 in
theorem rcopy17_any {w : World} {pl : Bool} {ao eo : Option Addr} {ca ce : Nat} {ls : List (List Int)} {es : List (Int × Int)} (ha : Ce.LstsAt w ao ls) (he : EdgesAt w eo es) (h0 : eo = none → ce = 0) (hn : ls.length ≤ 4398046511000) (hm : es.length ≤ 8796093022000) :
    Calls Tryd.prog 5 #[.agg #[.bool pl, .slice ao ls.length ca, .slice eo es.length ce]] w fun e w' => Below w.heap.size w w' ∧ ∃ v, e = .returned v ∧ CertAt w' w.heap.size v ⟨pl, ls, es⟩ := by
  have HA := Nu.hid ha
  have HE := Nu.hid he
  have H0 := Nu.hid h0
  clear ha he h0
  go_enter Tryd.func5, Tryd.ntmps5
  go_wp2_with fail
  generalize hW : ((w.alloc (.cells #[.bool pl, .slice ao ls.length ca, .slice eo es.length ce] 25)).alloc (.cells #[.bool false, .slice none 0 0, .slice none 0 0] 25)) = W0
  have hbW : Below w.heap.size w W0 := by rw [← hW]; exact ((Below.refl _ _).alloc (Nat.le_refl _) _).alloc (by simp) _
  have hsW : W0.heap.size = w.heap.size + 2 := by rw [← hW]; simp
  have hC : W0.heap[w.heap.size]? = some (.cells #[.bool pl, .slice ao ls.length ca, .slice eo es.length ce] 25 (0, 0)) := by
    rw [← hW, Below.heap_alloc _ _ _ (by simp)]
    exact heap_alloc_new w _
  have hR : W0.heap[w.heap.size + 1]? = some (.cells #[.bool false, .slice none 0 0, .slice none 0 0] 25 (0, 0)) := by
    rw [← hW]
    have := heap_alloc_new (w.alloc (.cells #[.bool pl, .slice ao ls.length ca, .slice eo es.length ce] 25)) (.cells #[.bool false, .slice none 0 0, .slice none 0 0] 25)
    rwa [World.size_alloc] at this
  have HC := Nu.hid hC
  have HR := Nu.hid hR
  have HBW := Nu.hid hbW
  have hbd : Below W0.heap.size W0 { W0 with drawn := W0.drawn + 1 } := (Below.refl _ _).drew
  clear hC hR hbW hW
  refine wp_region_any (by kernel_rfl) ?_
  refine AnyOrd.anyV (CyC W0 w.heap.size pl eo ce es) 32 rfl (by kernel_rfl) (fun ρ => CyC.start hbd) ?_ ?_
  · intro j o' Ls ρ W ev ho hLi hC haft hdc he1 he2 hec hef
    have hc : j = 0 ∨ j = 1 ∨ j = 2 ∨ j = 3 ∨ j = 4 ∨ j = 5 ∨ j = 6 ∨ j = 7 ∨ j = 8 := by
      have : j < 9 := (Array.getElem?_eq_some_iff.1 ho).1
      omega
    have hno : ∀ u, (Ls u = true → Ls j = true) → Ls u = false := fun u h => by
      cases h' : Ls u with
      | false => rfl
      | true =>
        have := h h'
        rw [hLi] at this
        cases this
    have hlow := hC.low
    obtain ⟨g0, g1, g2, -⟩ := three_cells17 (blk_later17 HC.out hlow)
    rcases hc with rfl | rfl | rfl | rfl | rfl | rfl | rfl | rfl | rfl <;> obtain rfl := Option.some.inj ho
    · have e1 : ev (.tmp 1) = .pointer (some ⟨w.heap.size, 0, none⟩) := he2 1 (by kernel_rfl)
      exact AnyOrd.gives_value (v := .pointer (some ⟨w.heap.size, 0, none⟩)) (w' := W) (by simp [execOp, go_sem, e1]) hC.zero
    · have h0 : Ls 0 = true := haft ⟨0, .data⟩ (by simp) rfl
      have hC' := hC
      obtain ⟨_, _, _, _, _, _, _, S⟩ := hC
      have e1 : ev (.tmp 5) = .pointer (some ⟨w.heap.size, 0, none⟩) := (he1 0 5 (by omega) rfl (by decide)).trans (S.v0 h0)
      exact AnyOrd.gives_value (v := .bool pl) (w' := W) (by simp [execOp, go_sem, e1, g0]) hC'.one
    · exact AnyOrd.gives_value (v := .slice (some ⟨W.heap.size, 0, none⟩) 0 0) (w' := W.alloc (.cells #[] 41)) (by simp [execOp, go_sem]) hC.two
    · have e1 : ev (.tmp 1) = .pointer (some ⟨w.heap.size, 0, none⟩) := he2 1 (by kernel_rfl)
      exact AnyOrd.gives_value (v := .pointer (some ⟨w.heap.size, 2, none⟩)) (w' := W) (by simp [execOp, go_sem, e1]) hC.three
    · have h3 : Ls 3 = true := haft ⟨3, .data⟩ (by simp) rfl
      have hC' := hC
      obtain ⟨_, _, _, _, _, _, _, S⟩ := hC
      have e1 : ev (.tmp 8) = .pointer (some ⟨w.heap.size, 2, none⟩) := (he1 3 8 (by omega) rfl (by decide)).trans (S.v3 h3)
      exact AnyOrd.gives_value (v := .slice eo es.length ce) (w' := W) (by simp [execOp, go_sem, e1, g2]) hC'.four
    · have h2 : Ls 2 = true := haft ⟨2, .data⟩ (by simp) rfl
      have h4 : Ls 4 = true := haft ⟨4, .data⟩ (by simp) rfl
      have n6 : Ls 6 = false := hno 6 fun h => hdc 6 _ rfl h ⟨5, .data⟩ (by simp) rfl
      have n8 : Ls 8 = false := hno 8 fun h => hdc 8 _ rfl h ⟨5, .chain⟩ (by simp) rfl
      have hC' := hC
      obtain ⟨b, _, _, _, _, _, _, S⟩ := hC
      have e1 : ev (.tmp 7) = .slice (some ⟨b, 0, none⟩) 0 0 := (he1 2 7 (by omega) rfl (by decide)).trans (S.v2 h2)
      have e2 : ev (.tmp 9) = .slice eo es.length ce := (he1 4 9 (by omega) rfl (by decide)).trans (S.v4 h4)
      obtain ⟨g, c, w', hrun, hg, hown, -, hbw⟩ := run_copyE 23 W b eo es.length ce es (S.e2 h2 hLi).2 ((HE.out.later HBW.out).later hlow) rfl H0.out hm
      refine AnyOrd.gives_value (v := .slice (some ⟨g, 0, none⟩) es.length c) (w' := w') ?_ (hC'.five hbw h2 hLi n6 n8 (S.v2 h2) hg hown)
      simp [execOp, resolve, invoke, builtin, e1, e2, hrun, Result.andThen]
    · have h1 : Ls 1 = true := haft ⟨1, .data⟩ (by simp) rfl
      have h5 : Ls 5 = true := haft ⟨5, .data⟩ (by simp) rfl
      obtain ⟨va, vc, e2, hC6⟩ := hC.six h5
      obtain ⟨_, _, _, _, _, _, _, S⟩ := hC
      have e1 : ev (.tmp 6) = .bool pl := (he1 1 6 (by omega) rfl (by decide)).trans (S.v1 h1)
      have e3 := (he1 5 10 (by omega) rfl (by decide)).trans e2
      exact AnyOrd.gives_value (v := .agg #[.bool pl, .slice none 0 0, .slice va es.length vc]) (w' := W) (by simp [execOp, go_sem, e1, e3]) hC6
    · have n8 : Ls 8 = false := hno 8 fun h => hdc 8 _ rfl h ⟨7, .data⟩ (by simp) rfl
      exact AnyOrd.gives_value (v := .pointer (some ⟨W.heap.size, 0, none⟩)) (w' := W.alloc (.cells #[.bool false, .slice none 0 0, .slice none 0 0] 25)) (by simp [execOp, go_sem]) (hC.seven n8 _ _ _)
    · have h7 : Ls 7 = true := haft ⟨7, .data⟩ (by simp) rfl
      have h6 : Ls 6 = true := haft ⟨6, .data⟩ (by simp) rfl
      have h5 : Ls 5 = true := haft ⟨5, .chain⟩ (by simp) rfl
      obtain ⟨H, va, vc, x, y, z, e2, e3, hbox, hC9⟩ := hC.eight h5 h6 h7 undef
      have e4 := (he1 7 3 (by omega) rfl (by decide)).trans e2
      have e5 := (he1 6 11 (by omega) rfl (by decide)).trans e3
      obtain ⟨q0, q1, q2, qf⟩ := three_cells17 hbox
      have qf0 := qf 0
      have qf1 := qf 1
      have qf2 := qf 2
      exact AnyOrd.gives_skip (by simp [execOp, go_sem, e4, e5, q0, q1, q2, qf0, qf1, qf2]) hC9
  · intro Ls ρ W hall hC
    obtain ⟨H, a, c, e7, hH, hbox, hown, -, hbw⟩ := hC.done hall
    have hL : CyL w H pl ao ls.length ca eo es.length ce es a c (.slice none 0 0) [] [] W :=
      ⟨HBW.out.trans (hbw.mono HBW.out.size), by omega, blk_later17 HC.out hbw, blk_later17 HR.out hbw, hbox, RowsZ.nil _ _, by rw [hsW] at hown; exact hown⟩
    have HL := Nu.hid hL
    clear hC hall hbox hown hbw hL hbd hH hsW HC HR HBW H0 HE
    obtain ⟨n, hnn⟩ : ∃ n, ls.length = n := ⟨_, rfl⟩
    have HN := Nu.hid hnn
    rw [hnn] at hn HL ⊢
    clear hnn
    simp only [AnyOrd.canon, AnyOrd.dst, Array.size, List.length_cons, List.length_nil]
    simp [Act.put, e7]
    go_wp2
    go_loopw [4] (fun iv wr => ∃ (k : Nat) (va : Value) (vs : List Value), k ≤ n ∧ iv = .int .i64 (k : Int) ∧ CyL w H pl ao n ca eo es.length ce es a c va vs (ls.take k) wr) (fun iv _ => n - (intOf iv).toNat)
    case atStart => exact ⟨0, _, [], Nat.zero_le _, rfl, HL.out⟩
    case round =>
      obtain ⟨k, va, vs, hk, rfl, hl⟩ := hrel
      obtain ⟨v0, v1, v2, -⟩ := three_cells17 hl.box
      have HL2 := Nu.hid hl
      by_cases hlt : k < n
      · have hlti : (k : Int) < (n : Int) := by omega
        obtain ⟨l, hlk⟩ : ∃ l, ls[k]? = some l := ⟨_, List.getElem?_eq_getElem (by have := HN.out; omega)⟩
        obtain ⟨b, o, xa, xc, rfl, c0, hlst, hll⟩ := (HA.out.later hl.low) k l hlk
        have HLK := Nu.hid hlk
        clear hlk hl
        go_wp2_with fail
        have hkl : (ls.take k).length = k := by rw [List.length_take]; have := HN.out; omega
        have q0 : (0 : Int) ≤ (k : Int) := by omega
        have hdr : Below wr.heap.size wr wr.drew := (Below.refl _ _).drew
        have hl0 := HL2.out.later hdr
        obtain ⟨U1, hU1⟩ : ∃ U1, U1 = wr.drew.alloc (.cells #[] 3) := ⟨_, rfl⟩
        have hb1 : Below wr.drew.heap.size wr.drew U1 := by rw [hU1]; exact (Below.refl _ _).alloc (Nat.le_refl _) _
        have hl1 := hl0.later hb1
        have hn1 : U1.heap[wr.heap.size]? = some (.cells #[] 3 (0, 0)) := by rw [hU1]; exact heap_alloc_new _ _
        have hs1 : U1.heap.size = wr.heap.size + 1 := by rw [hU1]; simp
        obtain ⟨g, gc, U2, hrun2, hg2, hown2, -, hb2⟩ := run_copyI 39 U1 wr.heap.size xa l.length xc l hn1 ((hlst.later hdr).later hb1) hll
        have hl2 := hl1.later hb2
        have hx := hown2 (w.heap.size + 2) hl0.size
        have hx1 : ∀ (u : Nat) (y : Value) (d : Nat), vs[u]? = some y → y.ownBlock = some d → (Value.slice (some ⟨g, 0, none⟩) l.length gc).ownBlock ≠ some d := fun u y d hy hd e => by
          obtain ⟨m', hm'⟩ := HL2.out.rows.at hy
          have h1 := (World.ownsRow.lt (HL2.out.rows.row u y m' hy hm') d hd).2
          obtain rfl : g = d := by simpa [Value.ownBlock] using e
          omega
        obtain ⟨U3, hU3⟩ : ∃ U3, U3 = U2.alloc (.cells #[.slice (some ⟨g, 0, none⟩) l.length gc] 39) := ⟨_, rfl⟩
        have hb3 : Below U2.heap.size U2 U3 := by rw [hU3]; exact (Below.refl _ _).alloc (Nat.le_refl _) _
        have hn3 : U3.heap[U2.heap.size]? = some (.cells #[.slice (some ⟨g, 0, none⟩) l.length gc] 39 (0, 0)) := by rw [hU3]; exact heap_alloc_new _ _
        have hs3 : U3.heap.size = U2.heap.size + 1 := by rw [hU3]; simp
        have hl3 := hl2.later hb3
        have ho3 := hl3.rows.outer
        rw [hkl] at ho3
        obtain ⟨va4, U4, hrun4, ho4, hg4, hat4⟩ := run_pushR (w.heap.size + 2) va vs k (some ⟨g, 0, none⟩) l.length gc ho3 hl3.size U2.heap.size hn3 (by omega)
        obtain ⟨g4, c4, rfl⟩ := own_succ ho4
        rw [hs3] at hat4
        have hg4' := hg4
        rw [hU3] at hg4'
        have ho4' : U4.ownsRow (w.heap.size + 2) 39 1 (.slice (some ⟨g4, 0, none⟩) (k + 1) c4) ((ls.take k).length + 1) (vs ++ [.slice (some ⟨g, 0, none⟩) l.length gc]) := by rw [hkl]; exact ho4
        obtain ⟨hl5, m2, m1, mf, hb4⟩ := hl2.push hx hx1 ho4' hg4' hat4
        have hbk : ∀ V, V = wr.drew ∨ V = U1 ∨ V = U2 ∨ V = U3 → CyL w H pl (some ⟨b, o, none⟩) n ca eo es.length ce es a c va vs (ls.take k) V ∧ Below wr.heap.size wr V := by
          rintro V (rfl | rfl | rfl | rfl)
          · exact ⟨hl0, hdr⟩
          · exact ⟨hl1, hdr.trans (hb1.mono hdr.size)⟩
          · exact ⟨hl2, (hdr.trans (hb1.mono hdr.size)).trans (hb2.mono (hdr.trans (hb1.mono hdr.size)).size)⟩
          · exact ⟨hl3, ((hdr.trans (hb1.mono hdr.size)).trans (hb2.mono (hdr.trans (hb1.mono hdr.size)).size)).trans (hb3.mono ((hdr.trans (hb1.mono hdr.size)).trans (hb2.mono (hdr.trans (hb1.mono hdr.size)).size)).size)⟩
        have HV : Hid (∀ V, V = wr.drew ∨ V = U1 ∨ V = U2 ∨ V = U3 ∨ V = U4 → V.cell? ⟨H, 1, none⟩ = some va ∧ V.cell? ⟨w.heap.size, 1, none⟩ = some (.slice (some ⟨b, o, none⟩) n ca) ∧ V.cell? ⟨b, o + k, none⟩ = some (.slice xa l.length xc)) := by
          rintro V (h | h | h | h | rfl)
          rotate_right
          · refine ⟨m1, m2, ?_⟩
            obtain ⟨b', o', xa', xc', e', hc', hlst', -⟩ := (HA.out.later hb4) k l HLK.out
            cases e'
            obtain ⟨b'', o'', xa'', xc'', e'', hc'', hlst'', -⟩ := HA.out k l HLK.out
            cases e''
            have h1 := (hb4.cell (p := ⟨b, o + k, none⟩) (block_lt_of_cell hc'')).trans hc''
            have h2 := (HL2.out.low.cell (p := ⟨b, o + k, none⟩) (block_lt_of_cell hc'')).trans hc''
            rw [c0] at h2
            rw [h1, ← h2]
          all_goals
            obtain ⟨hc, hbv⟩ := hbk V (by first | exact .inl h | exact .inr (.inl h) | exact .inr (.inr (.inl h)) | exact .inr (.inr (.inr h)))
            exact ⟨(three_cells17 hc.out).2.1, (three_cells17 hc.box).2.1, (hbv.cell (p := ⟨b, o + k, none⟩) (block_lt_of_cell c0)).trans c0⟩
        have HW1 : Hid (∀ (ev : Operand → Value) (o' : Oper), o'.op = .buildSlice 39 0 #[] → (execOp ev o').run Tryd.prog wr.drew = .ok (.value (.slice (some ⟨wr.heap.size, 0, none⟩) 0 0)) U1) := fun ev o' ho => by rw [hU1]; simp [execOp, ho, go_sem]
        have HW3 : Hid (∀ (ev : Operand → Value) (o' : Oper), o'.op = .buildSlice 22 1 #[(0, .tmp 27)] → ev (.tmp 27) = .slice (some ⟨g, 0, none⟩) l.length gc → (execOp ev o').run Tryd.prog U2 = .ok (.value (.slice (some ⟨U2.heap.size, 0, none⟩) 1 1)) U3) := fun ev o' ho he => by rw [hU3]; simp [execOp, ho, go_sem, he]
        have HRUN2 := Nu.hid hrun2
        have HRUN4 := Nu.hid hrun4
        have HF4 := Nu.hid mf
        have HL5 := Nu.hid hl5
        clear hl0 hl1 hl2 hl3 hl5 hb1 hb2 hb3 hb4 hn1 hn3 hs1 hs3 hU1 hU3 hrun2 hrun4 hx hx1 hown2 ho3 ho4 ho4' hg4 hg4' hat4 m1 m2 mf hbk hdr hg2 hkl
        refine wp_region_any (by kernel_rfl) ?_
        refine AnyOrd.anyP (fun j => match j with | 0 => .pointer (some ⟨H, 1, none⟩) | 1 => va | 2 => .slice (some ⟨wr.heap.size, 0, none⟩) 0 0 | 3 => .pointer (some ⟨w.heap.size, 1, none⟩) | 4 => .slice (some ⟨b, o, none⟩) n ca | 5 => .int .i64 (k : Int) | 6 => .pointer (some ⟨b, o + k, none⟩) | 7 => .slice xa l.length xc | 8 => .slice (some ⟨g, 0, none⟩) l.length gc | 9 => .slice (some ⟨U2.heap.size, 0, none⟩) 1 1 | 10 => .slice (some ⟨g4, 0, none⟩) (k + 1) c4 | 11 => .pointer (some ⟨H, 1, none⟩) | _ => undef) (AnyM.memC wr.drew [(12, (U4.setCell ⟨H, 1, none⟩ (.slice (some ⟨g4, 0, none⟩) (k + 1) c4))), (10, U4), (9, U3), (8, U2), (2, U1)]) 32 rfl (by kernel_rfl) rfl ?_ ?_
        · intro j o' Ls V ev ho hLi hC haft hdc he1 he2 hec hef
          have hc : j = 0 ∨ j = 1 ∨ j = 2 ∨ j = 3 ∨ j = 4 ∨ j = 5 ∨ j = 6 ∨ j = 7 ∨ j = 8 ∨ j = 9 ∨ j = 10 ∨ j = 11 ∨ j = 12 := by
            have : j < 13 := (Array.getElem?_eq_some_iff.1 ho).1
            omega
          have hst : Ls 12 = false := by
            cases h : Ls 12 with
            | false => rfl
            | true =>
              exfalso
              have hq : Ls j = true := by
                rcases hc with rfl | rfl | rfl | rfl | rfl | rfl | rfl | rfl | rfl | rfl | rfl | rfl | rfl
                · exact hdc 12 _ rfl h ⟨0, .phase⟩ (by simp) rfl
                · exact hdc 12 _ rfl h ⟨1, .phase⟩ (by simp) rfl
                · exact hdc 12 _ rfl h ⟨2, .phase⟩ (by simp) rfl
                · exact hdc 12 _ rfl h ⟨3, .phase⟩ (by simp) rfl
                · exact hdc 12 _ rfl h ⟨4, .phase⟩ (by simp) rfl
                · exact hdc 12 _ rfl h ⟨5, .phase⟩ (by simp) rfl
                · exact hdc 12 _ rfl h ⟨6, .phase⟩ (by simp) rfl
                · exact hdc 12 _ rfl h ⟨7, .phase⟩ (by simp) rfl
                · exact hdc 12 _ rfl h ⟨8, .phase⟩ (by simp) rfl
                · exact hdc 12 _ rfl h ⟨9, .phase⟩ (by simp) rfl
                · exact hdc 12 _ rfl h ⟨10, .phase⟩ (by simp) rfl
                · exact hdc 12 _ rfl h ⟨11, .data⟩ (by simp) rfl
                · exact h
              rw [hLi] at hq
              cases hq
          have hcV : V = wr.drew ∨ V = U1 ∨ V = U2 ∨ V = U3 ∨ V = U4 := by
            cases h2 : Ls 2 <;> cases h8 : Ls 8 <;> cases h9 : Ls 9 <;> cases h10 : Ls 10 <;> simp [AnyM.memC, hst, h2, h8, h9, h10] at hC <;> simp [hC]
          obtain ⟨k1, k2, k3⟩ := HV.out V hcV
          rcases hc with rfl | rfl | rfl | rfl | rfl | rfl | rfl | rfl | rfl | rfl | rfl | rfl | rfl <;> obtain rfl := Option.some.inj ho
          · have e1 : ev (.tmp 3) = .pointer (some ⟨H, 0, none⟩) := he2 3 (by kernel_rfl)
            exact AnyOrd.gives_value (v := .pointer (some ⟨H, 1, none⟩)) (w' := V) (by simp [execOp, go_sem, e1]) ⟨rfl, AnyM.other rfl hC⟩
          · have e1 : ev (.tmp 19) = .pointer (some ⟨H, 1, none⟩) := he1 0 19 (by omega) rfl (by decide)
            exact AnyOrd.gives_value (v := va) (w' := V) (by simp [execOp, go_sem, e1, k1]) ⟨rfl, AnyM.other rfl hC⟩
          · have hn8 : Ls 8 = false := by
              cases h : Ls 8 with
              | false => rfl
              | true =>
                have hq2 : Ls 2 = true := hdc 8 _ rfl h ⟨2, .data⟩ (by simp) rfl
                rw [hLi] at hq2
                cases hq2
            have hn9 : Ls 9 = false := by
              cases h : Ls 9 with
              | false => rfl
              | true =>
                have hq8 : Ls 8 = true := hdc 9 _ rfl h ⟨8, .data⟩ (by simp) rfl
                rw [hn8] at hq8
                cases hq8
            have hn10 : Ls 10 = false := by
              cases h : Ls 10 with
              | false => rfl
              | true =>
                have hq9 : Ls 9 = true := hdc 10 _ rfl h ⟨9, .data⟩ (by simp) rfl
                rw [hn9] at hq9
                cases hq9
            have hVe : V = wr.drew := by
              simp only [AnyM.memC] at hC
              simp only [hn8, hn9, hn10, hLi, hst, Bool.false_eq_true, if_false] at hC
              exact hC
            rw [hVe]
            refine AnyOrd.gives_value (v := .slice (some ⟨wr.heap.size, 0, none⟩) 0 0) (w' := U1) (HW1.out ev _ rfl) ⟨rfl, ?_⟩
            simp [AnyM.memC, AnyOrd.updB, hn8, hn9, hn10, hst]
          · have e1 : ev (.tmp 1) = .pointer (some ⟨w.heap.size, 0, none⟩) := he2 1 (by kernel_rfl)
            exact AnyOrd.gives_value (v := .pointer (some ⟨w.heap.size, 1, none⟩)) (w' := V) (by simp [execOp, go_sem, e1]) ⟨rfl, AnyM.other rfl hC⟩
          · have e1 : ev (.tmp 22) = .pointer (some ⟨w.heap.size, 1, none⟩) := he1 3 22 (by omega) rfl (by decide)
            exact AnyOrd.gives_value (v := .slice (some ⟨b, o, none⟩) n ca) (w' := V) (by simp [execOp, go_sem, e1, k2]) ⟨rfl, AnyM.other rfl hC⟩
          · have e1 : ev (.tmp 4) = .int .i64 (k : Int) := he2 4 (by kernel_rfl)
            exact AnyOrd.gives_value (v := .int .i64 (k : Int)) (w' := V) (by simp [execOp, go_sem, e1]) ⟨rfl, AnyM.other rfl hC⟩
          · have e1 : ev (.tmp 23) = .slice (some ⟨b, o, none⟩) n ca := he1 4 23 (by omega) rfl (by decide)
            have e2 : ev (.tmp 24) = .int .i64 (k : Int) := he1 5 24 (by omega) rfl (by decide)
            exact AnyOrd.gives_value (v := .pointer (some ⟨b, o + k, none⟩)) (w' := V) (by simp [execOp, go_sem, e1, e2, hlti, q0]) ⟨rfl, AnyM.other rfl hC⟩
          · have e1 : ev (.tmp 25) = .pointer (some ⟨b, o + k, none⟩) := he1 6 25 (by omega) rfl (by decide)
            exact AnyOrd.gives_value (v := .slice xa l.length xc) (w' := V) (by simp [execOp, go_sem, e1, k3]) ⟨rfl, AnyM.other rfl hC⟩
          · have e1 : ev (.tmp 21) = .slice (some ⟨wr.heap.size, 0, none⟩) 0 0 := he1 2 21 (by omega) rfl (by decide)
            have e2 : ev (.tmp 26) = .slice xa l.length xc := he1 7 26 (by omega) rfl (by decide)
            have hp : Ls 2 = true := haft ⟨2, .data⟩ (by simp) rfl
            have hn9 : Ls 9 = false := by
              cases h : Ls 9 with
              | false => rfl
              | true =>
                have hq8 : Ls 8 = true := hdc 9 _ rfl h ⟨8, .data⟩ (by simp) rfl
                rw [hLi] at hq8
                cases hq8
            have hn10 : Ls 10 = false := by
              cases h : Ls 10 with
              | false => rfl
              | true =>
                have hq9 : Ls 9 = true := hdc 10 _ rfl h ⟨9, .data⟩ (by simp) rfl
                rw [hn9] at hq9
                cases hq9
            have hVe : V = U1 := by
              simp only [AnyM.memC] at hC
              simp only [hn9, hn10, hLi, hp, hst, Bool.false_eq_true, if_false, if_true] at hC
              exact hC
            rw [hVe]
            refine AnyOrd.gives_value (v := .slice (some ⟨g, 0, none⟩) l.length gc) (w' := U2) (by simp [execOp, resolve, invoke, builtin, e1, e2, HRUN2.out, Result.andThen]) ⟨rfl, ?_⟩
            simp [AnyM.memC, AnyOrd.updB, hn9, hn10, hst]
          · have e1 : ev (.tmp 27) = .slice (some ⟨g, 0, none⟩) l.length gc := he1 8 27 (by omega) rfl (by decide)
            have hp : Ls 8 = true := haft ⟨8, .data⟩ (by simp) rfl
            have hn10 : Ls 10 = false := by
              cases h : Ls 10 with
              | false => rfl
              | true =>
                have hq9 : Ls 9 = true := hdc 10 _ rfl h ⟨9, .data⟩ (by simp) rfl
                rw [hLi] at hq9
                cases hq9
            have hVe : V = U2 := by
              simp only [AnyM.memC] at hC
              simp only [hn10, hLi, hp, hst, Bool.false_eq_true, if_false, if_true] at hC
              exact hC
            rw [hVe]
            refine AnyOrd.gives_value (v := .slice (some ⟨U2.heap.size, 0, none⟩) 1 1) (w' := U3) (HW3.out ev _ rfl e1) ⟨rfl, ?_⟩
            simp [AnyM.memC, AnyOrd.updB, hn10, hst]
          · have e1 : ev (.tmp 20) = va := he1 1 20 (by omega) rfl (by decide)
            have e2 : ev (.tmp 28) = .slice (some ⟨U2.heap.size, 0, none⟩) 1 1 := he1 9 28 (by omega) rfl (by decide)
            have hp : Ls 9 = true := haft ⟨9, .data⟩ (by simp) rfl
            have hVe : V = U3 := by
              simp only [AnyM.memC] at hC
              simp only [hLi, hp, hst, Bool.false_eq_true, if_false, if_true] at hC
              exact hC
            rw [hVe]
            refine AnyOrd.gives_value (v := .slice (some ⟨g4, 0, none⟩) (k + 1) c4) (w' := U4) (HRUN4.out _ ev _ _ rfl rfl e1 e2) ⟨rfl, ?_⟩
            simp [AnyM.memC, AnyOrd.updB, hst]
          · have e1 : ev (.tmp 3) = .pointer (some ⟨H, 0, none⟩) := he2 3 (by kernel_rfl)
            exact AnyOrd.gives_value (v := .pointer (some ⟨H, 1, none⟩)) (w' := V) (by simp [execOp, go_sem, e1]) ⟨rfl, AnyM.other rfl hC⟩
          · have e1 : ev (.tmp 30) = .pointer (some ⟨H, 1, none⟩) := he1 11 30 (by omega) rfl (by decide)
            have e2 : ev (.tmp 29) = .slice (some ⟨g4, 0, none⟩) (k + 1) c4 := he1 10 29 (by omega) rfl (by decide)
            have hp : Ls 10 = true := haft ⟨10, .data⟩ (by simp) rfl
            have hVe : V = U4 := by
              simp only [AnyM.memC] at hC
              simp only [hLi, hp, Bool.false_eq_true, if_false, if_true] at hC
              exact hC
            rw [hVe]
            rw [hVe] at k1
            refine AnyOrd.gives_skip (w' := (U4.setCell ⟨H, 1, none⟩ (.slice (some ⟨g4, 0, none⟩) (k + 1) c4))) (by simp [execOp, go_sem, e1, e2, k1, HF4.out]) ⟨rfl, ?_⟩
            simp [AnyM.memC, AnyOrd.updB]
        · intro Ls V hall hC
          unfold AnyM.memC at hC
          rw [if_pos (hall 12 (by decide))] at hC
          subst hC
          simp only [AnyOrd.canon, AnyOrd.dst, Array.size, List.length_cons, List.length_nil]
          simp [Act.put]
          go_wp2_with fail
          go_roundw
          case rel =>
            have htk : ls.take (k + 1) = ls.take k ++ [l] := by
              rw [List.take_add_one, HLK.out]
              simp
            exact ⟨k + 1, _, vs ++ [.slice (some ⟨g, 0, none⟩) l.length gc], by omega, by go_num, by rw [htk]; exact HL5.out⟩
          case measure => simp [intOf]; omega
      · have hlti : ¬ ((k : Int) < (n : Int)) := by omega
        obtain rfl : k = n := by omega
        have hte : ls.take k = ls := by rw [← HN.out]; exact List.take_length
        rw [hte] at hl HL2
        obtain ⟨u0, u1, u2, -⟩ := three_cells17 hl.out
        obtain ⟨r0, r1, r2, rf⟩ := three_cells17 hl.res
        obtain ⟨vo, vc, rfl⟩ := row_shape hl.rows
        rw [← HN.out] at hlti
        have hL2 := HL2.out
        clear hl
        have k0 := three_set17 HL2.out.res (.bool pl) (.slice vo ls.length vc) (.slice a es.length c)
        have hbf : Below w.heap.size w (((wr.setCell ⟨w.heap.size + 1, 0, none⟩ (.bool pl)).setCell ⟨w.heap.size + 1, 1, none⟩ (.slice vo ls.length vc)).setCell ⟨w.heap.size + 1, 2, none⟩ (.slice a es.length c)) := ((HL2.out.low.setCell (p := ⟨w.heap.size + 1, 0, none⟩) (by simp) _).setCell (p := ⟨w.heap.size + 1, 1, none⟩) (by simp) _).setCell (p := ⟨w.heap.size + 1, 2, none⟩) (by simp) _
        have ho : ∀ d, d ≠ w.heap.size + 1 → (((wr.setCell ⟨w.heap.size + 1, 0, none⟩ (.bool pl)).setCell ⟨w.heap.size + 1, 1, none⟩ (.slice vo ls.length vc)).setCell ⟨w.heap.size + 1, 2, none⟩ (.slice a es.length c)).heap[d]? = wr.heap[d]? := fun d hd => by
          rw [heap_setCell_other _ ⟨w.heap.size + 1, 2, none⟩ d _ hd, heap_setCell_other _ ⟨w.heap.size + 1, 1, none⟩ d _ hd, heap_setCell_other _ ⟨w.heap.size + 1, 0, none⟩ d _ hd]
        have HCA : Hid (CertAt (((wr.setCell ⟨w.heap.size + 1, 0, none⟩ (.bool pl)).setCell ⟨w.heap.size + 1, 1, none⟩ (.slice vo ls.length vc)).setCell ⟨w.heap.size + 1, 2, none⟩ (.slice a es.length c)) w.heap.size (.agg #[.bool pl, .slice vo ls.length vc, .slice a es.length c]) ⟨pl, ls, es⟩) :=
          ⟨_, _, vs, rfl, (hL2.rows.same fun d h1 _ => ho d (by omega)).lower (by omega), OwnE.lower (row_same hL2.edges fun d _ h1 _ => ho d (by omega)) (by omega)⟩
        clear hL2 ho
        go_wp2
        refine bodyPost_ret (v := .agg #[.bool pl, .slice vo ls.length vc, .slice a es.length c]) (results_cell_row (p := 2) (ty := 25) Tryd.results5 _ _ (w.heap.size + 1) 25 _ (0, 0) _ rfl k0 Tryd.underlying25 rfl (by kernel_rfl)) rfl ?_
        exact ⟨hbf, _, rfl, HCA.out⟩
end Go.Proofs.YtodlejemkihjnaaDoor
