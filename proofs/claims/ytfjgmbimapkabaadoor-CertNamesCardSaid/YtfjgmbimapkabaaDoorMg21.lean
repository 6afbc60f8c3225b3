import Derived.Test.YtfjgmbimapkabaaDoorMg19
/-
  The document's Print, whole.
-/
namespace Go.Proofs.YtfjgmbimapkabaaDoor
open Go.RowKit

/-- A certificate that can be read. -/
structure Ce.Sees (w : World) (v : Value) (c : Ce.Cert) (ao eo : Option Addr) (ca ce : Nat) : Prop where
  val : v = .agg #[.bool c.pl, .slice ao c.ar.length ca, .slice eo c.es.length ce]
  ar : Ce.ListsAt w ao c.ar
  es : EdgesAt w eo c.es
theorem Ce.Sees.later {w w' : World} {v : Value} {c : Ce.Cert} {ao eo : Option Addr} {ca ce : Nat} (h : Ce.Sees w v c ao eo ca ce) (hb : Below w.heap.size w w') : Ce.Sees w' v c ao eo ca ce := ⟨h.val, h.ar.later hb, h.es.later hb⟩
/-- No list of it is longer than a list may be. -/
structure Ce.Fits (c : Ce.Cert) : Prop where
  ar : c.ar.length ≤ 4611686018427387904
  es : c.es.length ≤ 4611686018427387904
  row : ∀ l ∈ c.ar, l.length ≤ 4611686018427387904
  txt : Ce.good c → (Ce.textB c).length ≤ 70368744177664
/-- What Print answers. -/
def PrintP (c : Ce.Cert) (e : Ending) : Prop := (¬ Ce.good c → e = .returned (.tuple #[.string ⟨#[]⟩, .int .i64 170])) ∧ (Ce.good c → Prt (Ce.textB c) e)

theorem rprint17_any {w : World} {v : Value} {c : Ce.Cert} {ao eo : Option Addr} {ca ce : Nat} (h : Ce.Sees w v c ao eo ca ce) (hf : Ce.Fits c) :
    Calls Tryd.prog 12 #[v] w fun e w' => PrintP c e ∧ Below w.heap.size w w' := by
  rw [h.val]
  by_cases hg : Ce.good c
  · suffices hh : Calls Tryd.prog 12 #[.agg #[.bool c.pl, .slice ao c.ar.length ca, .slice eo c.es.length ce]] w fun e w' => Prt (Ce.textB c) e ∧ Below w.heap.size w w' from
      hh.mono fun e w' h => ⟨⟨fun hn => absurd hg hn, fun _ => h.1⟩, h.2⟩
    have ht := hf.txt hg
    have ha := h.ar
    have he := h.es
    have hr := hf.row
    clear h hf
    obtain ⟨pl, ar, es⟩ := c
    unfold Ce.good at hg
    cases pl with
    | true =>
      rw [if_pos rfl] at hg
      obtain ⟨h0, h1⟩ := hg
      dsimp only at h0 ha hr
      subst h0
      exact rprint17_lists ha rfl h1 hr _ rfl ht
    | false =>
      rw [if_neg (by simp)] at hg
      obtain ⟨h0, h1⟩ := hg
      dsimp only at h0 he
      subst h0
      exact rprint17_edges he rfl h1 _ rfl ht
  · exact (rprint17_bad h.ar h.es hf.ar hf.es hf.row hg).mono fun e w' h => ⟨⟨fun _ => h.1, fun hn => absurd hn hg⟩, h.2⟩
end Go.Proofs.YtfjgmbimapkabaaDoor
/-
  The document's own SameInts.
-/
namespace Go.Proofs.YtfjgmbimapkabaaDoor
open Go.RowKit

set_option maxRecDepth 100000 in
set_option maxHeartbeats 4000000 in
theorem sameints17_any (ao bo : Option Addr) (ca cb n m : Nat) (l l' : List Int) (w : World) (hn : l.length = n) (hm : l'.length = m) (ha : IntsAt w ao l) (hb : IntsAt w bo l') (hl : n ≤ 4611686018427387904) :
    Calls Tryd.prog 35 #[.slice ao n ca, .slice bo m cb] w fun e w' => e = .returned (.bool (decide (l = l'))) ∧ Below w.heap.size w w' := by
  have HA := Nu.hid ha
  have HB := Nu.hid hb
  have HN := Nu.hid hn
  have HM := Nu.hid hm
  clear ha hb
  by_cases hll : n = m
  · have j1 : ((n : Int) != (m : Int)) = false := by simp [hll]
    have HLL := Nu.hid hll
    have hnm : (n : Int) = (m : Int) := by omega
    clear hll hn hm
    go_enter Tryd.func35, Tryd.ntmps35
    have HNM := Nu.hid hnm
    clear hnm
    go_wp2
    go_loopw [5] (fun c wr => ∃ k : Nat, k ≤ n ∧ c = .int .i64 k ∧ (∀ j, j < k → l[j]? = l'[j]?) ∧ Below w.heap.size w wr) (fun c _ => n - (intOf c).toNat)
    case atStart => exact ⟨0, Nat.zero_le _, rfl, fun j h => by omega, Below.refl _ _⟩
    case round =>
      obtain ⟨k, hk, rfl, hsame, hbw⟩ := hrel
      have HSAME := Nu.hid hsame
      have HBW := Nu.hid hbw
      clear hsame
      by_cases hlt : k < n
      · have hlti : (k : Int) < (n : Int) := by omega
        have hk0 : (0 : Int) ≤ (k : Int) := by omega
        have hlm : (k : Int) < (m : Int) := by have := HNM.out; omega
        obtain ⟨x, hx⟩ : ∃ x, l[k]? = some x := ⟨_, List.getElem?_eq_getElem (by have := HN.out; omega)⟩
        obtain ⟨y, hy⟩ : ∃ y, l'[k]? = some y := ⟨_, List.getElem?_eq_getElem (by have := HM.out; omega)⟩
        obtain ⟨b, o, rfl, c0⟩ := (HA.out.later hbw) k x hx
        obtain ⟨b', o', rfl, d0⟩ := (HB.out.later hbw) k y hy
        have hbl : b < wr.heap.size := block_lt_of_cell c0
        have hbl' : b' < wr.heap.size := block_lt_of_cell d0
        have HX := Nu.hid hx
        have HY := Nu.hid hy
        clear hx hy hbw
        by_cases e1 : x = y
        · have t1 : (x != y) = false := by simp [e1]
          have HXY := Nu.hid e1
          clear e1
          go_wp2_with fail
          go_quiet (fail)
          go_wp2
          go_roundw
          case rel =>
            refine ⟨k + 1, by omega, by go_num, fun j hj => ?_, below_drewN HBW.out _⟩
            by_cases hjk : j = k
            · subst hjk; rw [HX.out, HY.out, HXY.out]
            · exact HSAME.out j (by omega)
          case measure => simp [intOf]; omega
        · have t1 : (x != y) = true := by simp [e1]
          have hv : decide (l = l') = false := by
            simp only [decide_eq_false_iff_not]
            intro h
            rw [h, HY.out] at HX
            cases HX.out
            exact e1 rfl
          have HV := Nu.hid hv
          clear hv
          go_wp2_with fail
          go_quiet (fail)
          go_wp2
          go_ret
          exact ⟨by rw [HV.out]; rfl, below_drewN HBW.out _⟩
      · have hd : ¬ ((k : Int) < (n : Int)) := by omega
        have hv : decide (l = l') = true := by
          simp only [decide_eq_true_eq]
          refine List.ext_getElem? fun j => ?_
          by_cases hj : j < k
          · exact HSAME.out j hj
          · rw [List.getElem?_eq_none (by have := HN.out; omega), List.getElem?_eq_none (by have := HM.out; have := HLL.out; omega)]
        have HV := Nu.hid hv
        clear hv hbw
        go_wp2
        go_ret
        exact ⟨by rw [HV.out]; rfl, HBW.out⟩
  · have j1 : ((n : Int) != (m : Int)) = true := by simp; omega
    have hv : decide (l = l') = false := by
      simp only [decide_eq_false_iff_not]
      intro h
      rw [h] at hn
      omega
    rw [hv]
    clear hll hn hm hv
    go_enter Tryd.func35, Tryd.ntmps35
    go_wp2
    go_ret
    exact ⟨rfl, Below.refl _ _⟩

end Go.Proofs.YtfjgmbimapkabaaDoor
/-
  Lists that can be read, wherever they lie: the document's SameLists of layer 1.
-/
namespace Go.Proofs.YtfjgmbimapkabaaDoor
open Go.RowKit Go.Sort

set_option maxRecDepth 100000 in
set_option maxHeartbeats 8000000 in
/-- Lists of lists that read alike are the same. -/
theorem samelists17 (ao ao' : Option Addr) (c c' : Nat) (ls : List (List Int)) (w : World) (hr : Ce.ListsAt w ao ls) (hr' : Ce.ListsAt w ao' ls) (hl : ls.length ≤ 4611686018427387904) (hll : ∀ l ∈ ls, l.length ≤ 4611686018427387904) :
    Calls Tryd.prog 27 #[.slice ao ls.length c, .slice ao' ls.length c'] w fun e w' => e = .returned (.bool true) ∧ Below w.heap.size w w' := by
  have H := Nu.hid hr
  have H' := Nu.hid hr'
  have HLL := Nu.hid hll
  have j1 : ((ls.length : Int) != (ls.length : Int)) = false := by simp
  clear hll hr hr'
  go_enter Tryd.func27, Tryd.ntmps27
  go_wp2
  go_loopw [5] (fun cv wr => ∃ k : Nat, k ≤ ls.length ∧ cv = .int .i64 (k : Int) ∧ Below w.heap.size w wr) (fun cv _ => ls.length - (intOf cv).toNat)
  case atStart => exact ⟨0, Nat.zero_le _, rfl, Below.refl _ _⟩
  case round =>
    obtain ⟨k, hk, rfl, hb⟩ := hrel
    have HB := Nu.hid hb
    by_cases hlt : k < ls.length
    · have hlti : (k : Int) < (ls.length : Int) := by omega
      have hk0 : (0 : Int) ≤ (k : Int) := by omega
      obtain ⟨l, hlk⟩ : ∃ l, ls[k]? = some l := ⟨_, List.getElem?_eq_getElem hlt⟩
      obtain ⟨g, go, xo, xc, rfl, cx0, hxa0⟩ := H.out k l hlk
      obtain ⟨g', go', yo, yc, rfl, cy0, hya0⟩ := H'.out k l hlk
      have cx := (hb.cell (p := ⟨g, go + k, none⟩) (block_lt_of_cell cx0)).trans cx0
      have cy := (hb.cell (p := ⟨g', go' + k, none⟩) (block_lt_of_cell cy0)).trans cy0
      have hxa := hxa0.later hb
      have hya := hya0.later hb
      have hsz : l.length ≤ 4611686018427387904 := HLL.out l (List.mem_of_getElem? hlk)
      have hsame : ∀ W, Below wr.heap.size wr W → Calls Tryd.prog 35 #[.slice xo l.length xc, .slice yo l.length yc] W fun e w' => e = .returned (.bool true) ∧ Below W.heap.size W w' := fun W hbW => by
        refine (sameints17_any xo yo xc yc l.length l.length l l W rfl rfl (hxa.later hbW) (hya.later hbW) hsz).mono ?_
        rintro e w' ⟨h1, h2⟩
        exact ⟨by rw [h1]; simp, h2⟩
      have HSAME := Nu.hid hsame
      obtain ⟨p1, hp1⟩ : ∃ p1, l.length = p1 := ⟨_, rfl⟩
      rw [hp1] at cx cy HSAME
      have hS : ∀ W, Below wr.heap.size wr W → (W.cell? ⟨g, go + k, none⟩ = some (.slice xo p1 xc) ∧ W.cell? ⟨g', go' + k, none⟩ = some (.slice yo p1 yc) ∧ Below wr.heap.size wr W) := fun W hbW =>
        ⟨(hbW.cell (p := ⟨g, go + k, none⟩) (block_lt_of_cell cx)).trans cx, (hbW.cell (p := ⟨g', go' + k, none⟩) (block_lt_of_cell cy)).trans cy, hbW⟩
      have HS := Nu.hid hS
      have hbr : Below wr.heap.size wr wr.drew := (Below.refl _ _).drew
      clear hxa hya hlk hb hsame hS hp1 hsz cx0 cy0 hxa0 hya0
      go_wp2_with fail
      go_region_held3 (fun W => W.cell? ⟨g, go + k, none⟩ = some (.slice xo p1 xc) ∧ W.cell? ⟨g', go' + k, none⟩ = some (.slice yo p1 yc) ∧ Below wr.heap.size wr W)
        (exact HS.out _ (by first | assumption | exact hbr))
        ((go_at_call 35; refine (HSAME.out _ (by first | assumption | exact hbr)).mono ?_; rintro e w6 ⟨rfl, hbs⟩; have hbz : Below wr.heap.size wr w6 := Below.trans (by first | assumption | exact hbr) (hbs.mono (Below.size (by first | assumption | exact hbr)))))
      have HBZ := Nu.hid (HB.out.trans (hbz.mono HB.out.size))
      clear hbz hbs HSAME HS hbr
      go_wp2
      go_roundw
      case rel => exact ⟨k + 1, by omega, by go_num, HBZ.out⟩
      case measure => simp [intOf]; omega
    · have hd : ¬ ((k : Int) < (ls.length : Int)) := by omega
      clear hb
      go_wp2
      go_ret
      exact ⟨rfl, HB.out⟩

end Go.Proofs.YtfjgmbimapkabaaDoor
/-
  The document's Same of two certificates that read alike.
-/
namespace Go.Proofs.YtfjgmbimapkabaaDoor
open Go.RowKit

/-- Two certificates, variables of one's own. -/
structure TwoC (w : World) (x y z x' y' z' : Value) (W : World) : Prop where
  low : Below w.heap.size w W
  b1 : W.heap[w.heap.size]? = some (.cells #[x, y, z] 27 (0, 0))
  b2 : W.heap[w.heap.size + 1]? = some (.cells #[x', y', z'] 27 (0, 0))
section
variable {w W W' : World} {x y z x' y' z' : Value}
theorem TwoC.start : TwoC w x y z x' y' z' ((w.alloc (.cells #[x, y, z] 27)).alloc (.cells #[x', y', z'] 27)) := by
  have e2 := heap_alloc_new (w.alloc (.cells #[x, y, z] 27)) (.cells #[x', y', z'] 27)
  rw [World.size_alloc] at e2
  refine ⟨((Below.refl _ _).alloc (Nat.le_refl _) _).alloc (by simp) _, ?_, e2⟩
  rw [Below.heap_alloc _ _ _ (by simp)]
  exact heap_alloc_new w _
theorem TwoC.later (h : TwoC w x y z x' y' z' W) (hb : Below W.heap.size W W') : TwoC w x y z x' y' z' W' :=
  ⟨h.low.trans (hb.mono h.low.size), (hb.block _ (lt_of_block h.b1)).trans h.b1, (hb.block _ (lt_of_block h.b2)).trans h.b2⟩
end

set_option maxRecDepth 100000 in
set_option maxHeartbeats 4000000 in
theorem rsame17_yes {w : World} {v v' : Value} {c : Ce.Cert} {ao eo ao' eo' : Option Addr} {ca ce ca' ce' : Nat} (h : Ce.Sees w v c ao eo ca ce) (h' : Ce.Sees w v' c ao' eo' ca' ce') (hf : Ce.Fits c) :
    Calls Tryd.prog 15 #[v, v'] w fun e w' => e = .returned (.bool true) ∧ Below w.heap.size w w' := by
  obtain ⟨pl, ar, es⟩ := c
  have HS := Nu.hid (TwoC.start (w := w) (x := .bool pl) (y := .slice ao ar.length ca) (z := .slice eo es.length ce) (x' := .bool pl) (y' := .slice ao' ar.length ca') (z' := .slice eo' es.length ce'))
  have HE := Nu.hid h.es
  have HE' := Nu.hid h'.es
  have h1 := hf.ar
  have h2 := hf.es
  dsimp only at HE HE' h1 h2
  have HL : Hid (∀ W, Below w.heap.size w W → Calls Tryd.prog 27 #[.slice ao ar.length ca, .slice ao' ar.length ca'] W fun e w' => e = .returned (.bool true) ∧ Below W.heap.size W w') := fun W hW => samelists17 ao ao' ca ca' ar W (h.ar.later hW) (h'.ar.later hW) h1 hf.row
  rw [h.val, h'.val]
  dsimp only
  clear h h' hf
  obtain ⟨n, hn⟩ : ∃ n, ar.length = n := ⟨_, rfl⟩
  obtain ⟨m, hm⟩ : ∃ m, es.length = m := ⟨_, rfl⟩
  have HM := Nu.hid hm
  rw [hn] at HS HL h1 ⊢
  rw [hm] at HS h2 ⊢
  clear hn hm
  have e1 : (pl != pl) = false := by simp
  have e2 : ((m : Int) != (m : Int)) = false := by simp
  obtain ⟨v0, v1, v2, -⟩ := three_cells17 HS.out.b1
  obtain ⟨u0, u1, u2, -⟩ := three_cells17 HS.out.b2
  go_enter Tryd.func15, Tryd.ntmps15
  go_wp2
  go_loopw [5] (fun iv wr => ∃ k : Nat, k ≤ m ∧ iv = .int .i64 (k : Int) ∧ TwoC w (.bool pl) (.slice ao n ca) (.slice eo m ce) (.bool pl) (.slice ao' n ca') (.slice eo' m ce') wr) (fun iv _ => m - (intOf iv).toNat)
  case atStart => exact ⟨0, Nat.zero_le _, rfl, HS.out⟩
  case round =>
    clear v0 v1 v2 u0 u1 u2
    obtain ⟨k, hk, rfl, ht⟩ := hrel
    have HT := Nu.hid ht
    clear ht
    obtain ⟨v0, v1, v2, -⟩ := three_cells17 HT.out.b1
    obtain ⟨u0, u1, u2, -⟩ := three_cells17 HT.out.b2
    by_cases hlt : k < m
    · have hlti : (k : Int) < (m : Int) := by omega
      have k0 : (0 : Int) ≤ (k : Int) := by omega
      obtain ⟨⟨p, q⟩, hp⟩ : ∃ p, es[k]? = some p := ⟨_, List.getElem?_eq_getElem (by have := HM.out; omega)⟩
      obtain ⟨b, o, rfl, c0, c1⟩ := HE.out.later HT.out.low k (p, q) hp
      obtain ⟨b', o', rfl, d0, d1⟩ := HE'.out.later HT.out.low k (p, q) hp
      dsimp only at c0 c1 d0 d1
      clear hp
      go_wp2_with fail
      go_quiet (fail)
      go_wp2
      go_roundw
      case rel => exact ⟨k + 1, by omega, by go_num, HT.out.later (below_drewN (Below.refl _ _) _)⟩
      case measure => simp [intOf]; omega
    · have hlti : ¬ ((k : Int) < (m : Int)) := by omega
      have HC := Nu.hid (HL.out wr HT.out.low)
      go_wp2_with (go_at_call 27; refine HC.out.mono ?_; rintro e w1 ⟨rfl, hb⟩; have HB := Nu.hid (HT.out.later hb); clear hb v0 v1 v2 u0 u1 u2)
      go_ret
      exact ⟨rfl, HB.out.low⟩
end Go.Proofs.YtfjgmbimapkabaaDoor
