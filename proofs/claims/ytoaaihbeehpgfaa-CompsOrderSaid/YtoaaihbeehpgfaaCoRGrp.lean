/-
  The document's Groups; lists of lists that are alike.
-/
import Derived.Test.YtoaaihbeehpgfaaCoRef
import Derived.Test.YtoaaihbeehpgfaaCoGrp
import Derived.Deep.RegionHeld3
namespace Go.Proofs.Ytoaaihbeehpgfaa
open Go.RowKit Go.Sort

namespace Co
/-- The numbers of i's set from i on are all of them. -/
theorem gl_next_yes {m : Nat → Nat} {a n : Nat} (h : m a = a) : gl m (a + 1) n = gl m a n ++ [mem m n a] := by
  unfold gl
  rw [fp_succ_yes h, List.map_append]
  rfl
theorem gl_next_no {m : Nat → Nat} {a n : Nat} (h : m a ≠ a) : gl m (a + 1) n = gl m a n := by
  unfold gl
  rw [fp_succ_no h]
end Co

set_option maxRecDepth 100000 in
set_option maxHeartbeats 16000000 in
theorem rgroups_any (ao : Option Addr) (n c : Nat) (m : Nat → Nat) (w : World) (h : RefAt w ao n m) (hn : n ≤ 1048576) (hnorm : Co.Norm n m) : Calls Try.prog 20 #[.slice ao n c] w (GrpPost n m w) := by
  obtain ⟨i0, hi, hz0, hz1, hz2⟩ := info_parts Try.infoNum
  obtain ⟨i1, hi1, hy0, hy1, hy2⟩ := info_parts Try.infoRow
  have HR := Nu.hid h
  have HNORM := Nu.hid hnorm
  clear h hnorm
  go_enter Try.func20, Try.ntmps20
  go_wp2
  go_loopw [3, 4] (fun gv cv wr => ∃ (a : Nat) (vs : List Value), a ≤ n ∧ cv = .int .i64 (a : Int) ∧ RowsZ wr w.heap.size gv vs (Co.gl m a n) ∧ Below w.heap.size w wr) (fun _ cv _ => n - (intOf cv).toNat)
  case atStart => exact ⟨0, [], Nat.zero_le _, rfl, RowsZ.nil _ _, Below.refl _ _⟩
  case round =>
    obtain ⟨a, vs, han, rfl, hrows, hb⟩ := hrel
    obtain ⟨w0, rfl⟩ : ∃ w0, w0 = wr := ⟨wr, rfl⟩
    have hgl := Co.gl_length m a n
    have hcf := Co.cntTo_le (Co.fix m) a
    obtain ⟨go, gc, hgv⟩ := row_shape hrows
    rw [hgl] at hgv
    have HROWS := Nu.hid hrows
    have HB := Nu.hid hb
    have HGL := Nu.hid hgl
    obtain ⟨L, hL⟩ : ∃ L, Co.cntTo (Co.fix m) a = L := ⟨_, rfl⟩
    rw [hL] at hcf HGL hgv
    by_cases hlt : a < n
    · have ha0 : (0 : Int) ≤ (a : Int) := by omega
      have ha1 : (a : Int) < (n : Int) := by omega
      obtain ⟨b, o, rfl, c0⟩ := RefAt.cell (IntsAt.later HR.out hb) hlt
      by_cases hf : m a = a
      · have hd : ((m a : Int) != (a : Int)) = false := by simp [hf]
        have HGN := Nu.hid (Co.gl_next_yes (n := n) hf)
        subst hgv
        clear hf hrows hb hgl hL
        go_wp2
        have HR0 := HROWS.out
        go_loopw [5, 6] (fun ov cv wx => ∃ k : Nat, a ≤ k ∧ k ≤ n ∧ cv = .int .i64 (k : Int) ∧ OwnZ wx w.heap.size ov (Co.mem m k a) ∧ (∀ q, ov.ownBlock = some q → w0.heap.size ≤ q) ∧ Below w0.heap.size w0 wx) (fun _ cv _ => n - (intOf cv).toNat)
        case atStart =>
          refine ⟨a, Nat.le_refl _, han, rfl, ?_, fun q hq => (by cases hq), Below.refl _ _⟩
          rw [Co.mem_early HNORM.out (Nat.le_refl a) han]
          exact OwnZ.nil _ _
        case round =>
          obtain ⟨k, hak, hkn, rfl, ho, hfar, hbx⟩ := hrel
          obtain ⟨oo, oc, hov, -, -⟩ := ho.form
          have hml := Co.mem_length m k a
          have HO := Nu.hid ho
          have HFAR := Nu.hid hfar
          have HBX := Nu.hid hbx
          have hsx := hbx.size
          have hs0 := HB.out.size
          by_cases hk : k < n
          · have hk0 : (0 : Int) ≤ (k : Int) := by omega
            have hk1 : (k : Int) < (n : Int) := by omega
            obtain ⟨b', o', e', c1⟩ := RefAt.cell (IntsAt.later HR.out (HB.out.trans (hbx.mono hs0))) hk
            cases e'
            by_cases he : m k = a
            · have hd2 : ((m k : Int) == (a : Int)) = true := by simp [he]
              have HMS := Nu.hid (Co.mem_succ_yes (b := k) he)
              obtain ⟨p1, hp1⟩ : ∃ p1, (Co.mem m k a).length = p1 := ⟨_, rfl⟩
              unfold OwnZ at ho
              rw [hp1] at ho hov hml
              have HP1 := Nu.hid hp1
              have hoB : ∀ q, (Value.slice oo p1 oc).ownBlock = some q → w0.heap.size ≤ q := by rw [← hov]; exact hfar
              have HOB := Nu.hid hoB
              have HOO := Nu.hid ho
              subst hov
              clear ho hfar hbx he hp1 hoB
              go_wp2_with (at_builtin; refine wpList_append_own_at _ rfl _ _ 30 rfl w.heap.size 3 i0 (.int .i64 0) 1 8 Try.underlying30 hi hz0 hz1 hz2 rfl (by decide) _ _ _ rfl (World.ownsRow.alloc HOO.out _) ⟨wr.heap.size, 0, none⟩ 1 1 [.int .i64 (k : Int)] rfl rfl (cell_one_new _ _ _) (by simp [Value.oneCell']) (by unfold maxLen; omega) (by omega) (by simp; omega) ?_; refine Hid.out ?_)
              refine Nu.hid ?_
              intro v1 w1 hown1 hgrow1 _ hat1
              obtain ⟨g1, c1', hv1⟩ := own_succ hown1
              subst hv1
              have HO1 : Hid (OwnZ w1 w.heap.size (.slice (some ⟨g1, 0, none⟩) (p1 + 1) c1') (Co.mem m (k + 1) a)) := by
                show OwnZ _ _ _ _
                unfold OwnZ
                rw [HMS.out, List.length_append, List.map_append, HP1.out]
                exact hown1
              have HB1 := Nu.hid ((HBX.out.alloc hsx _).grown hgrow1 (by simp; omega) HOB.out)
              have HF1 : Hid (∀ q, (Value.slice (some ⟨g1, 0, none⟩) (p1 + 1) c1').ownBlock = some q → w0.heap.size ≤ q) := by
                intro q hq
                rcases hat1 with e | e
                · exact HOB.out q (e.symm.trans hq)
                · have e3 := Option.some.inj (e.symm.trans hq)
                  try simp at e3
                  omega
              clear hown1 hgrow1 hat1
              go_wp2
              go_roundw
              case rel => exact ⟨k + 1, by omega, by omega, by go_num, HO1.out, HF1.out, HB1.out⟩
              case measure => simp [intOf]; omega
            · have hd2 : ((m k : Int) == (a : Int)) = false := by simp; omega
              have HMS := Nu.hid (Co.mem_succ_no (b := k) he)
              clear ho hfar hbx he
              go_wp2
              go_roundw
              case rel => exact ⟨k + 1, by omega, by omega, by go_num, by rw [HMS.out]; exact HO.out, HFAR.out, HBX.out⟩
              case measure => simp [intOf]; omega
          · have hd2 : ¬ ((k : Int) < (n : Int)) := by omega
            obtain rfl : k = n := by omega
            have hR1 := HR0.later hbx
            have hout := hR1.outer
            rw [HGL.out] at hout
            have HOUT := Nu.hid hout
            have HR1 := Nu.hid hR1
            obtain ⟨p1, hp1⟩ : ∃ p1, (Co.mem m k a).length = p1 := ⟨_, rfl⟩
            rw [hp1] at hov
            subst hov
            have hoB : ∀ q, (Value.slice go L gc).ownBlock = some q → w.heap.size ≤ q ∧ q < w0.heap.size := fun q hq => World.ownsRow.lt HROWS.out.outer q hq
            have HOB := Nu.hid hoB
            clear ho hfar hbx hR1 hout hp1 HR0 hoB
            go_wp2_with (at_builtin; refine wpList_append_own_at _ rfl _ _ 41 rfl w.heap.size 30 i1 (.slice none 0 0) 1 24 Try.underlying41 hi1 hy0 hy1 hy2 rfl (by decide) _ _ _ rfl (World.ownsRow.alloc HOUT.out _) ⟨wr.heap.size, 0, none⟩ 1 1 [.slice oo p1 oc] rfl rfl (cell_one_new _ _ _) (by simp [Value.oneCell']) (by unfold maxLen; omega) (by omega) (by simp; omega) ?_; refine Hid.out ?_)
            refine Nu.hid ?_
            intro gv3 w3 hown3 hgrow3 _ hat3
            obtain ⟨g3, c3, hgv3⟩ := own_succ hown3
            subst hgv3
            have hg3 : RowsZ w3 w.heap.size (.slice (some ⟨g3, 0, none⟩) (L + 1) c3) (vs ++ [.slice oo p1 oc]) (Co.gl m (a + 1) k) := by
              rw [HGN.out]
              refine HR1.out.grow HO.out (fun u y q hy hq e => ?_) (fun q hq e => ?_) (tmp := .cells #[.slice oo p1 oc] 30) (by rw [HGL.out]; exact hown3) hgrow3 (by simpa using hat3)
              · have e1 := HFAR.out q e
                obtain ⟨l, hl⟩ := HROWS.out.at hy
                have := (World.ownsRow.lt (HROWS.out.row u y l hy hl) q hq).2
                omega
              · have e1 := HFAR.out q e
                have := (HOB.out q hq).2
                omega
            have HG3 := Nu.hid hg3
            have HB3 := Nu.hid (((HB.out.trans (HBX.out.mono hs0)).alloc (by omega) _).grown hgrow3 (by simp; omega) (fun q hq => (HOB.out q hq).1))
            clear hown3 hgrow3 hat3 hg3
            go_wp2
            go_roundw
            case rel => exact ⟨a + 1, _, by omega, by go_num, HG3.out, HB3.out⟩
            case measure => simp [intOf]; omega
      · have hd : ((m a : Int) != (a : Int)) = true := by simp; omega
        have HGN := Nu.hid (Co.gl_next_no (n := n) hf)
        subst hgv
        clear hf hrows hb hgl hL
        go_wp2
        go_roundw
        case rel => exact ⟨a + 1, vs, by omega, by go_num, by rw [HGN.out]; exact HROWS.out, HB.out⟩
        case measure => simp [intOf]; omega
    · have hd : ¬ ((a : Int) < (n : Int)) := by omega
      obtain rfl : a = n := by omega
      subst hgv
      clear hrows hb hgl hL
      go_wp2
      go_ret
      exact ⟨_, vs, rfl, HROWS.out, HB.out⟩

set_option maxRecDepth 100000 in
set_option maxHeartbeats 8000000 in
/-- Lists of lists that are alike are the same. -/
theorem samelists_any (B B' : Nat) (v v' : Value) (vs vs' : List Value) (ls : List (List Int)) (w : World) (h : RowsZ w B v vs ls) (h' : RowsZ w B' v' vs' ls) (hl : ls.length ≤ 4611686018427387904) (hll : ∀ l ∈ ls, l.length ≤ 4611686018427387904) :
    Calls Try.prog 18 #[v, v'] w fun e w' => e = .returned (.bool true) ∧ Below w.heap.size w w' := by
  obtain ⟨ao, c, rfl⟩ := row_shape h
  obtain ⟨ao', c', rfl⟩ := row_shape h'
  have H := Nu.hid h
  have H' := Nu.hid h'
  have HLL := Nu.hid hll
  have j1 : ((ls.length : Int) != (ls.length : Int)) = false := by simp
  clear h h' hll
  go_enter Try.func18, Try.ntmps18
  go_wp2
  go_loopw [5] (fun cv wr => ∃ k : Nat, k ≤ ls.length ∧ cv = .int .i64 (k : Int) ∧ Below w.heap.size w wr) (fun cv _ => ls.length - (intOf cv).toNat)
  case atStart => exact ⟨0, Nat.zero_le _, rfl, Below.refl _ _⟩
  case round =>
    obtain ⟨k, hk, rfl, hb⟩ := hrel
    have HB := Nu.hid hb
    by_cases hlt : k < ls.length
    · have hlti : (k : Int) < (ls.length : Int) := by omega
      have hk0 : (0 : Int) ≤ (k : Int) := by omega
      obtain ⟨l, hlk⟩ : ∃ l, ls[k]? = some l := ⟨_, List.getElem?_eq_getElem hlt⟩
      have h1 := H.out.later hb
      have h2 := H'.out.later hb
      obtain ⟨x, hx⟩ := h1.at' hlk
      obtain ⟨y, hy⟩ := h2.at' hlk
      obtain ⟨xo, xc, hxe, hxa, -⟩ := (h1.row k x l hx hlk).form
      obtain ⟨yo, yc, hye, hya, -⟩ := (h2.row k y l hy hlk).form
      subst hxe
      subst hye
      obtain ⟨g, gc, e1⟩ := row_form h1 (by omega)
      obtain ⟨g', gc', e2⟩ := row_form h2 (by omega)
      cases e1
      cases e2
      have ea : ∀ G : Nat, ((⟨G, 0, none⟩ : Addr).add k) = ⟨G, k, none⟩ := fun G => by
        by_cases h0 : k = 0 <;> simp [Addr.add, h0]
      have cx := World.ownsRow.cells h1.outer (g := g) rfl k _ hx
      have cy := World.ownsRow.cells h2.outer (g := g') rfl k _ hy
      rw [ea] at cx cy
      have hsz : l.length ≤ 4611686018427387904 := HLL.out l (List.mem_of_getElem? hlk)
      have hsame : ∀ W, Below wr.heap.size wr W → Calls Try.prog 25 #[.slice xo l.length xc, .slice yo l.length yc] W fun e w' => e = .returned (.bool true) ∧ Below W.heap.size W w' := fun W hbW => by
        refine (sameints_any xo yo xc yc l.length l.length l l W rfl rfl (hxa.later hbW) (hya.later hbW) hsz).mono ?_
        rintro e w' ⟨h1, h2⟩
        exact ⟨by rw [h1]; simp, h2⟩
      have HSAME := Nu.hid hsame
      obtain ⟨p1, hp1⟩ : ∃ p1, l.length = p1 := ⟨_, rfl⟩
      rw [hp1] at cx cy HSAME
      have hS : ∀ W, Below wr.heap.size wr W → (W.cell? ⟨g, k, none⟩ = some (.slice xo p1 xc) ∧ W.cell? ⟨g', k, none⟩ = some (.slice yo p1 yc) ∧ Below wr.heap.size wr W) := fun W hbW =>
        ⟨(hbW.cell (p := ⟨g, k, none⟩) (block_lt_of_cell cx)).trans cx, (hbW.cell (p := ⟨g', k, none⟩) (block_lt_of_cell cy)).trans cy, hbW⟩
      have HS := Nu.hid hS
      have hbr : Below wr.heap.size wr wr.drew := (Below.refl _ _).drew
      clear h1 h2 hx hy hxa hya hlk hb hsame hS ea hp1 hsz
      go_wp2_with fail
      go_region_held3 (fun W => W.cell? ⟨g, k, none⟩ = some (.slice xo p1 xc) ∧ W.cell? ⟨g', k, none⟩ = some (.slice yo p1 yc) ∧ Below wr.heap.size wr W)
        (exact HS.out _ (by first | assumption | exact hbr))
        ((go_at_call 25; refine (HSAME.out _ (by first | assumption | exact hbr)).mono ?_; rintro e w6 ⟨rfl, hbs⟩; have hbz : Below wr.heap.size wr w6 := Below.trans (by first | assumption | exact hbr) (hbs.mono (Below.size (by first | assumption | exact hbr)))))
      have HBZ := Nu.hid (HB.out.trans (hbz.mono HB.out.size))
      clear hbz hbs HSAME HS hbr
      go_wp2
      go_roundw
      case rel => exact ⟨k + 1, by omega, by go_num, HBZ.out⟩
      case measure => simp [intOf]; omega
    · have hd : ¬ ((k : Int) < (ls.length : Int)) := by omega
      clear hb
      go_wp2
      go_ret
      exact ⟨rfl, HB.out⟩

end Go.Proofs.Ytoaaihbeehpgfaa
