import Derived.Test.YtfjgmbimapkabaaDoorMg29
import Derived.Test.YtfjgmbimapkabaaDoorMg21
import Derived.Handy
/-
  The program's writer: the text of lists.
-/
namespace Go.Proofs.YtfjgmbimapkabaaDoor
open Go.RowKit

theorem tab_below {w : World} (h : Tab w) : ∀ W, Below w.heap.size w W → Tab W := fun W hW => Lib.tabBelow_of_tabIs h W hW
theorem flat_take {α : Type} (f : α → List UInt8) (ls : List α) {k : Nat} {l : α} (h : ls[k]? = some l) : (ls.take (k + 1)).flatMap f = (ls.take k).flatMap f ++ f l := by
  rw [List.take_add_one, h, List.flatMap_append]
  simp
theorem flat_split {α : Type} (f : α → List UInt8) (ls : List α) {k : Nat} {l : α} (h : ls[k]? = some l) : ∃ R, ls.flatMap f = (ls.take k).flatMap f ++ f l ++ R := by
  refine ⟨(ls.drop (k + 1)).flatMap f, ?_⟩
  rw [← flat_take f ls h, ← List.flatMap_append, List.take_append_drop]

set_option maxHeartbeats 4000000 in
set_option maxRecDepth 100000 in
theorem write17_lists {w : World} {ls : List (List Int)} {ao : Option Addr} {ca : Nat} (ha : Ce.ListsAt w ao ls) (hg : Ce.okLs ls) (hl : ∀ l ∈ ls, l.length ≤ 4611686018427387) (ht : Tab w) (T : List UInt8) (hT : Ce.textB ⟨true, ls, []⟩ = T) :
    Calls Tryd.prog 19 #[.iface 71 (.slice ao ls.length ca)] w fun e w' => Prt T e ∧ Below w.heap.size w w' := by
  have hta1 : ∀ (v : Value) (w : World), (Instr.typeAssert (.iface 71 v) 47 71 true).run Tryd.prog w = .ok (.tuple #[v, .bool true]) w := fun _ _ => by kernel_rfl
  obtain ⟨n, hn⟩ : ∃ n, ls.length = n := ⟨_, rfl⟩
  have hns : n ≤ 1048576 := by have := hg.2; omega
  have hok : Ce.okN (n : Int) := ⟨by omega, by omega⟩
  obtain ⟨H, hH⟩ : ∃ H, [112, 32] ++ Ce.lineB [(n : Int)] = H := ⟨_, rfl⟩
  have hTH : T = H ++ ls.flatMap Ce.lineB := by
    rw [← hT, ← hH]
    unfold Ce.textB Ce.cntC Ce.bodyB
    simp [hn, Ce.lineB, Ce.jn]
  have hT0 : T ≠ [] := by rw [hTH, ← hH]; simp
  have hHl : H.length ≤ 300000000 := by
    rw [← hH]
    have := Ce.line_hi [(n : Int)] (fun x hx => by rw [List.mem_singleton.1 hx]; exact hok)
    simp at this ⊢
    omega
  have hb0 : Below w.heap.size w (w.alloc (.cells #[.pointer none, .slice none 0 0, .bool false] 77)) := (Below.refl _ _).alloc (Nat.le_refl _) _
  have HHEAD := Nu.hid (whead17_any (S := [112, 32]) (Wrt.new (B := w.heap.size) w (Nat.le_refl _)) (by simp) (by simp) hok (fun W hW => tab_below ht W (hb0.trans hW)))
  rw [hH] at HHEAD
  have HTB := Nu.hid (tab_below ht)
  have HA := Nu.hid ha
  have HG := Nu.hid hg.1
  have HL := Nu.hid hl
  have HN := Nu.hid hn
  have HTH := Nu.hid hTH
  have HHL := Nu.hid hHl
  have HB0 := Nu.hid hb0
  rw [hn]
  clear ha hg hl ht hn hTH hHl hb0 hH hT
  go_enter Tryd.func19, Tryd.ntmps19
  go_wp2_with (go_at_call 30; refine HHEAD.out.mono ?_; rintro e w1 ⟨rfl, hw1, hb1⟩; have HW1 := Nu.hid hw1; have HB1 := Nu.hid (HB0.out.trans hb1); clear hw1 hb1)
  go_loopw [20] (fun iv wr => ∃ k : Nat, k ≤ n ∧ iv = .int .i64 (k : Int) ∧ WrS wr w.heap.size w.heap.size T (H ++ (ls.take k).flatMap Ce.lineB) ∧ Below w.heap.size w wr) (fun iv _ => n - (intOf iv).toNat)
  case atStart => exact ⟨0, Nat.zero_le _, rfl, ⟨H, false, HW1.out, HHL.out, .inl ⟨rfl, by simp⟩⟩, HB1.out⟩
  case round =>
    obtain ⟨k, hk, rfl, hw, hb⟩ := hrel
    have HW := Nu.hid hw
    have HB := Nu.hid hb
    have hsz := hb.size
    by_cases hlt : k < n
    · have hlti : (k : Int) < (n : Int) := by omega
      obtain ⟨l, hlk⟩ : ∃ l, ls[k]? = some l := ⟨_, List.getElem?_eq_getElem (by have := HN.out; omega)⟩
      obtain ⟨b, o, xa, xc, rfl, c0, hia⟩ := (HA.out.later hb) k l hlk
      have hlm := HL.out l (List.mem_of_getElem? hlk)
      have hxs : ∃ R, T = (H ++ (ls.take k).flatMap Ce.lineB) ++ Ce.lineB l ++ R := by
        obtain ⟨R, hR⟩ := flat_split Ce.lineB ls hlk
        exact ⟨R, by rw [HTH.out, hR]; simp⟩
      have HC := Nu.hid (hw.line hsz (c := xc) hia (fun x hx => ((HG.out l (List.mem_of_getElem? hlk)) x hx).1) hlm (HTB.out _ hb) hxs)
      have HLK := Nu.hid hlk
      have k0 : (0 : Int) ≤ (k : Int) := by omega
      clear hw hb hia hlk hxs
      go_wp2_with (go_at_call 31; refine HC.out.mono ?_; rintro e w2 ⟨rfl, hw2, hb2⟩; have HW2 := Nu.hid hw2; have HB2 := Nu.hid (HB.out.trans hb2); clear hw2 hb2)
      go_roundw
      case rel => exact ⟨k + 1, by omega, by go_num, by rw [flat_take Ce.lineB ls HLK.out, ← List.append_assoc]; exact HW2.out, HB2.out⟩
      case measure => simp [intOf]; omega
    · have hlti : ¬ ((k : Int) < (n : Int)) := by omega
      obtain rfl : k = n := by omega
      have hte : ls.take k = ls := by rw [← HN.out]; exact List.take_length
      rw [hte, ← HTH.out] at hw
      obtain ⟨K, t, c2, hlen, hx⟩ := hw.end hT0
      have HLEN := Nu.hid hlen
      clear hw hb hlen
      rcases hx with ⟨rfl, hlong⟩ | ⟨rfl, rfl, hstr⟩
      · go_wp2
        go_ret2
        exact ⟨.inl ⟨hlong, rfl⟩, HB.out⟩
      · have HSTR := Nu.hid hstr
        clear hstr
        by_cases hlong : 33554432 < T.length
        · have hli : (33554432 : Int) < (T.length : Int) := by omega
          go_wp2_with (go_at_call 32; refine HLEN.out.mono ?_; rintro e w' ⟨rfl, hw'⟩; obtain rfl := hw'.symm; clear hw')
          go_ret2
          exact ⟨.inl ⟨hlong, rfl⟩, HB.out⟩
        · have hli : ¬ ((33554432 : Int) < (T.length : Int)) := by omega
          go_wp2_with (first | (go_at_call 32; refine HLEN.out.mono ?_; rintro e w' ⟨rfl, hw'⟩; obtain rfl := hw'.symm; clear hw') | (go_at_call 33; refine HSTR.out.mono ?_; rintro e w4 ⟨rfl, hb4⟩; have HB4 := Nu.hid (HB.out.trans hb4); clear hb4))
          go_ret2
          exact ⟨.inr ⟨by omega, rfl⟩, HB4.out⟩
end Go.Proofs.YtfjgmbimapkabaaDoor
/-
  The program's writer: the text of edges.
-/
namespace Go.Proofs.YtfjgmbimapkabaaDoor
open Go.RowKit

theorem edge_line (p : Int × Int) : Ce.edgeB p = Ce.lineB [p.1, p.2] := by
  unfold Ce.edgeB Ce.lineB
  simp [Ce.jn]

set_option maxHeartbeats 4000000 in
set_option maxRecDepth 100000 in
theorem write17_edges {w : World} {es : List (Int × Int)} {ao : Option Addr} {ca : Nat} (ha : EdgesAt w ao es) (hg : Ce.okEs es) (ht : Tab w) (T : List UInt8) (hT : Ce.textB ⟨false, [], es⟩ = T) :
    Calls Tryd.prog 19 #[.iface 72 (.slice ao es.length ca)] w fun e w' => Prt T e ∧ Below w.heap.size w w' := by
  have hta2 : ∀ (v : Value) (w : World), (Instr.typeAssert (.iface 72 v) 47 71 true).run Tryd.prog w = .ok (.tuple #[.slice none 0 0, .bool false]) w := fun _ _ => by kernel_rfl
  have hta3 : ∀ (v : Value) (w : World), (Instr.typeAssert (.iface 72 v) 47 72 true).run Tryd.prog w = .ok (.tuple #[v, .bool true]) w := fun _ _ => by kernel_rfl
  obtain ⟨n, hn⟩ : ∃ n, es.length = n := ⟨_, rfl⟩
  have hns : n ≤ 4194304 := by have := hg.2; omega
  have hok : Ce.okN (n : Int) := ⟨by omega, by omega⟩
  obtain ⟨H, hH⟩ : ∃ H, [110, 32] ++ Ce.lineB [(n : Int)] = H := ⟨_, rfl⟩
  have hTH : T = H ++ es.flatMap Ce.edgeB := by
    rw [← hT, ← hH]
    unfold Ce.textB Ce.cntC Ce.bodyB
    simp [hn, Ce.lineB, Ce.jn]
  have hT0 : T ≠ [] := by rw [hTH, ← hH]; simp
  have hHl : H.length ≤ 300000000 := by
    rw [← hH]
    have := Ce.line_hi [(n : Int)] (fun x hx => by rw [List.mem_singleton.1 hx]; exact hok)
    simp at this ⊢
    omega
  have hb0 : Below w.heap.size w (w.alloc (.cells #[.pointer none, .slice none 0 0, .bool false] 77)) := (Below.refl _ _).alloc (Nat.le_refl _) _
  have HHEAD := Nu.hid (whead17_any (S := [110, 32]) (Wrt.new (B := w.heap.size) w (Nat.le_refl _)) (by simp) (by simp) hok (fun W hW => tab_below ht W (hb0.trans hW)))
  rw [hH] at HHEAD
  have HTB := Nu.hid (tab_below ht)
  have HA := Nu.hid ha
  have HG := Nu.hid hg.1
  have HN := Nu.hid hn
  have HTH := Nu.hid hTH
  have HHL := Nu.hid hHl
  have HB0 := Nu.hid hb0
  rw [hn]
  clear ha hg ht hn hTH hHl hb0 hH hT
  go_enter Tryd.func19, Tryd.ntmps19
  go_wp2_with (go_at_call 30; refine HHEAD.out.mono ?_; rintro e w1 ⟨rfl, hw1, hb1⟩; have HW1 := Nu.hid hw1; have HB1 := Nu.hid (HB0.out.trans hb1); clear hw1 hb1)
  go_loopw [35] (fun iv wr => ∃ k : Nat, k ≤ n ∧ iv = .int .i64 (k : Int) ∧ WrS wr w.heap.size w.heap.size T (H ++ (es.take k).flatMap Ce.edgeB) ∧ Below w.heap.size w wr) (fun iv _ => n - (intOf iv).toNat)
  case atStart => exact ⟨0, Nat.zero_le _, rfl, ⟨H, false, HW1.out, HHL.out, .inl ⟨rfl, by simp⟩⟩, HB1.out⟩
  case round =>
    obtain ⟨k, hk, rfl, hw, hb⟩ := hrel
    have HW := Nu.hid hw
    have HB := Nu.hid hb
    have hsz := hb.size
    by_cases hlt : k < n
    · have hlti : (k : Int) < (n : Int) := by omega
      obtain ⟨⟨u, v⟩, hlk⟩ : ∃ p, es[k]? = some p := ⟨_, List.getElem?_eq_getElem (by have := HN.out; omega)⟩
      obtain ⟨b, o, rfl, g0, g1⟩ := (HA.out.later hb) k (u, v) hlk
      dsimp only at g0 g1
      have hmm := List.mem_of_getElem? hlk
      have hxs : ∃ R, T = (H ++ (es.take k).flatMap Ce.edgeB) ++ Ce.lineB [u, v] ++ R := by
        obtain ⟨R, hR⟩ := flat_split Ce.edgeB es hlk
        exact ⟨R, by rw [HTH.out, hR, edge_line]; simp⟩
      have hz1 : Below wr.heap.size wr (wr.alloc (.cells #[.int .i64 u, .int .i64 v] 55)) := (Below.refl _ _).alloc (Nat.le_refl _) _
      have hz2 : Below wr.heap.size wr ((wr.alloc (.cells #[.int .i64 u, .int .i64 v] 55)).alloc (.cells #[.int .i64 u, .int .i64 v] 3)) := hz1.alloc (by simp) _
      have hI : IntsAt ((wr.alloc (.cells #[.int .i64 u, .int .i64 v] 55)).alloc (.cells #[.int .i64 u, .int .i64 v] 3)) (some ⟨(wr.alloc (.cells #[.int .i64 u, .int .i64 v] 55)).heap.size, 0, none⟩) [u, v] := IntsBlk.at (l := [u, v]) (heap_alloc_new _ _)
      rw [World.size_alloc] at hI
      have hwz : WrS ((wr.alloc (.cells #[.int .i64 u, .int .i64 v] 55)).alloc (.cells #[.int .i64 u, .int .i64 v] 3)) w.heap.size w.heap.size T (H ++ (es.take k).flatMap Ce.edgeB) := by
        obtain ⟨L, t, h1, h2⟩ := hw
        exact ⟨L, t, h1.later hz2, h2⟩
      have HZ := Nu.hid (hb.trans (hz2.mono hsz))
      have HC := Nu.hid (hwz.line (l := [u, v]) (c := 2) (by simp; omega) hI (fun x hx => by
        have := HG.out.1 (u, v) hmm
        simp at hx
        rcases hx with rfl | rfl
        · exact this.1
        · exact this.2.1) (by simp) (HTB.out _ HZ.out) hxs)
      have HLK := Nu.hid hlk
      have k0 : (0 : Int) ≤ (k : Int) := by omega
      clear hw hb hlk hxs hz1 hz2 hI hwz hmm
      go_wp2_with (go_at_call 31; refine HC.out.mono ?_; rintro e w2 ⟨rfl, hw2, hb2⟩; have HW2 := Nu.hid hw2; have HB2 := Nu.hid (HZ.out.trans hb2); clear hw2 hb2)
      go_roundw
      case rel => exact ⟨k + 1, by omega, by go_num, by rw [flat_take Ce.edgeB es HLK.out, ← List.append_assoc, edge_line]; exact HW2.out, HB2.out⟩
      case measure => simp [intOf]; omega
    · have hlti : ¬ ((k : Int) < (n : Int)) := by omega
      obtain rfl : k = n := by omega
      have hte : es.take k = es := by rw [← HN.out]; exact List.take_length
      rw [hte, ← HTH.out] at hw
      obtain ⟨K, t, c2, hlen, hx⟩ := hw.end hT0
      have HLEN := Nu.hid hlen
      clear hw hb hlen
      rcases hx with ⟨rfl, hlong⟩ | ⟨rfl, rfl, hstr⟩
      · go_wp2
        go_ret2
        exact ⟨.inl ⟨hlong, rfl⟩, HB.out⟩
      · have HSTR := Nu.hid hstr
        clear hstr
        by_cases hlong : 33554432 < T.length
        · have hli : (33554432 : Int) < (T.length : Int) := by omega
          go_wp2_with (go_at_call 32; refine HLEN.out.mono ?_; rintro e w' ⟨rfl, hw'⟩; obtain rfl := hw'.symm; clear hw')
          go_ret2
          exact ⟨.inl ⟨hlong, rfl⟩, HB.out⟩
        · have hli : ¬ ((33554432 : Int) < (T.length : Int)) := by omega
          go_wp2_with (first | (go_at_call 32; refine HLEN.out.mono ?_; rintro e w' ⟨rfl, hw'⟩; obtain rfl := hw'.symm; clear hw') | (go_at_call 33; refine HSTR.out.mono ?_; rintro e w4 ⟨rfl, hb4⟩; have HB4 := Nu.hid (HB.out.trans hb4); clear hb4))
          go_ret2
          exact ⟨.inr ⟨by omega, rfl⟩, HB4.out⟩
end Go.Proofs.YtfjgmbimapkabaaDoor
/-
  The program's Print.
-/
namespace Go.Proofs.YtfjgmbimapkabaaDoor
open Go.RowKit

set_option maxHeartbeats 2000000 in
set_option maxRecDepth 100000 in
theorem proofOf17_lists (w : World) (ao eo : Option Addr) (na ca ne ce : Nat) :
    Calls Tryd.prog 18 #[.agg #[.bool true, .slice ao na ca, .slice eo ne ce]] w fun e w' => e = .returned (.tuple #[.iface 71 (.slice ao na ca), .bool ((ne : Int) == 0)]) ∧ Below w.heap.size w w' := by
  go_enter Tryd.func18, Tryd.ntmps18
  go_wp2_with fail
  go_quiet (fail)
  go_wp2
  go_ret2
  exact ⟨rfl, below_drewN ((Below.refl _ _).alloc (Nat.le_refl _) _) _⟩
set_option maxHeartbeats 2000000 in
set_option maxRecDepth 100000 in
theorem proofOf17_edges (w : World) (ao eo : Option Addr) (na ca ne ce : Nat) :
    Calls Tryd.prog 18 #[.agg #[.bool false, .slice ao na ca, .slice eo ne ce]] w fun e w' => e = .returned (.tuple #[.iface 72 (.slice eo ne ce), .bool ((na : Int) == 0)]) ∧ Below w.heap.size w w' := by
  go_enter Tryd.func18, Tryd.ntmps18
  go_wp2_with fail
  go_quiet (fail)
  go_wp2
  go_ret2
  exact ⟨rfl, below_drewN ((Below.refl _ _).alloc (Nat.le_refl _) _) _⟩

set_option maxHeartbeats 2000000 in
set_option maxRecDepth 100000 in
theorem print17_lists {w : World} {ls : List (List Int)} {ao eo : Option Addr} {ca ce : Nat} (ha : Ce.ListsAt w ao ls) (hs : ls.length ≤ 4611686018427387904) (hl : ∀ l ∈ ls, l.length ≤ 4611686018427387) (ht : Tab w) :
    Calls Tryd.prog 10 #[.agg #[.bool true, .slice ao ls.length ca, .slice eo 0 ce]] w fun e w' => PrintP ⟨true, ls, []⟩ e ∧ Below w.heap.size w w' := by
  have hz : Below w.heap.size w (w.alloc (.cells #[.bool true, .slice ao ls.length ca, .slice eo 0 ce] 27)) := (Below.refl _ _).alloc (Nat.le_refl _) _
  have hgd : Ce.good ⟨true, ls, []⟩ ↔ Ce.okLs ls := by
    unfold Ce.good
    rw [if_pos rfl]
    exact ⟨fun h => ⟨h.2.1, h.2.2⟩, fun h => ⟨rfl, h.1, h.2⟩⟩
  have HZ := Nu.hid hz
  have HA := Nu.hid ha
  have HGD := Nu.hid hgd
  clear hz ha hgd
  by_cases hok : Ce.okLs ls
  · have HOK := Nu.hid hok
    clear hok
    go_enter Tryd.func10, Tryd.ntmps10
    go_wp2_with (first
      | (go_at_call 18; refine (proofOf17_lists _ _ _ _ _ _ _).mono ?_; rintro e w1 ⟨rfl, hb1⟩; have HB := Nu.hid (HZ.out.trans (hb1.mono HZ.out.size)); clear hb1)
      | (go_at_call 88; refine (pfitsL17_any (c := ca) (HA.out.later HB.out) hs (fun l h => Nat.le_trans (hl l h) (by omega))).mono ?_; rintro e w2 ⟨⟨t, rfl, htt⟩, hb2⟩; obtain rfl := htt.2 HOK.out; have HB2 := Nu.hid (HB.out.trans (hb2.mono HB.out.size)); clear hb2 htt)
      | (go_at_call 19; refine (write17_lists (ca := ca) (HA.out.later HB2.out) HOK.out hl (tab_below ht _ HB2.out) _ rfl).mono ?_; rintro e w3 ⟨hp, hb3⟩; rcases hp with ⟨hp1, rfl⟩ | ⟨hp1, rfl⟩))
    · go_ret2
      exact ⟨⟨fun hn => absurd (HGD.out.2 HOK.out) hn, fun _ => .inl ⟨hp1, rfl⟩⟩, HB2.out.trans (hb3.mono HB2.out.size)⟩
    · go_ret2
      exact ⟨⟨fun hn => absurd (HGD.out.2 HOK.out) hn, fun _ => .inr ⟨hp1, rfl⟩⟩, HB2.out.trans (hb3.mono HB2.out.size)⟩
  · have HOK := Nu.hid hok
    clear hok
    go_enter Tryd.func10, Tryd.ntmps10
    go_wp2_with (first
      | (go_at_call 18; refine (proofOf17_lists _ _ _ _ _ _ _).mono ?_; rintro e w1 ⟨rfl, hb1⟩; have HB := Nu.hid (HZ.out.trans (hb1.mono HZ.out.size)); clear hb1)
      | (go_at_call 88; refine (pfitsL17_any (c := ca) (HA.out.later HB.out) hs (fun l h => Nat.le_trans (hl l h) (by omega))).mono ?_; rintro e w2 ⟨⟨t, rfl, htt⟩, hb2⟩; obtain rfl : t = false := by { cases t with | false => rfl | true => exact absurd (htt.1 rfl) HOK.out }; have HB2 := Nu.hid (HB.out.trans (hb2.mono HB.out.size)); clear hb2 htt))
    go_ret2
    exact ⟨⟨fun _ => rfl, fun h => absurd (HGD.out.1 h) HOK.out⟩, HB2.out⟩
theorem print17_lists_no {w : World} {na ne : Nat} {ao eo : Option Addr} {ca ce : Nat} (hn : ne ≠ 0) :
    Calls Tryd.prog 10 #[.agg #[.bool true, .slice ao na ca, .slice eo ne ce]] w fun e w' => e = .returned (.tuple #[.string ⟨#[]⟩, .int .i64 170]) ∧ Below w.heap.size w w' := by
  have hz : Below w.heap.size w (w.alloc (.cells #[.bool true, .slice ao na ca, .slice eo ne ce] 27)) := (Below.refl _ _).alloc (Nat.le_refl _) _
  have hni : ((ne : Int) == 0) = false := by simp [hn]
  go_enter Tryd.func10, Tryd.ntmps10
  go_wp2_with (go_at_call 18; refine (proofOf17_lists _ _ _ _ _ _ _).mono ?_; rw [hni]; rintro e w1 ⟨rfl, hb1⟩)
  go_ret2
  exact ⟨rfl, hz.trans (hb1.mono hz.size)⟩

set_option maxHeartbeats 2000000 in
set_option maxRecDepth 100000 in
theorem print17_edges {w : World} {es : List (Int × Int)} {ao eo : Option Addr} {ca ce : Nat} (ha : EdgesAt w eo es) (hs : es.length ≤ 4611686018427387904) (ht : Tab w) :
    Calls Tryd.prog 10 #[.agg #[.bool false, .slice ao 0 ca, .slice eo es.length ce]] w fun e w' => PrintP ⟨false, [], es⟩ e ∧ Below w.heap.size w w' := by
  have hz : Below w.heap.size w (w.alloc (.cells #[.bool false, .slice ao 0 ca, .slice eo es.length ce] 27)) := (Below.refl _ _).alloc (Nat.le_refl _) _
  have hgd : Ce.good ⟨false, [], es⟩ ↔ Ce.okEs es := by
    unfold Ce.good
    rw [if_neg (by simp)]
    exact ⟨fun h => ⟨h.2.1, h.2.2⟩, fun h => ⟨rfl, h.1, h.2⟩⟩
  have HZ := Nu.hid hz
  have HA := Nu.hid ha
  have HGD := Nu.hid hgd
  clear hz ha hgd
  by_cases hok : Ce.okEs es
  · have HOK := Nu.hid hok
    clear hok
    go_enter Tryd.func10, Tryd.ntmps10
    go_wp2_with (first
      | (go_at_call 18; refine (proofOf17_edges _ _ _ _ _ _ _).mono ?_; rintro e w1 ⟨rfl, hb1⟩; have HB := Nu.hid (HZ.out.trans (hb1.mono HZ.out.size)); clear hb1)
      | (go_at_call 90; refine (pfitsE17_any (c := ce) (HA.out.later HB.out) hs).mono ?_; rintro e w2 ⟨⟨t, rfl, htt⟩, hb2⟩; obtain rfl := htt.2 HOK.out; have HB2 := Nu.hid (HB.out.trans (hb2.mono HB.out.size)); clear hb2 htt)
      | (go_at_call 19; refine (write17_edges (ca := ce) (HA.out.later HB2.out) HOK.out (tab_below ht _ HB2.out) _ rfl).mono ?_; rintro e w3 ⟨hp, hb3⟩; rcases hp with ⟨hp1, rfl⟩ | ⟨hp1, rfl⟩))
    · go_ret2
      exact ⟨⟨fun hn => absurd (HGD.out.2 HOK.out) hn, fun _ => .inl ⟨hp1, rfl⟩⟩, HB2.out.trans (hb3.mono HB2.out.size)⟩
    · go_ret2
      exact ⟨⟨fun hn => absurd (HGD.out.2 HOK.out) hn, fun _ => .inr ⟨hp1, rfl⟩⟩, HB2.out.trans (hb3.mono HB2.out.size)⟩
  · have HOK := Nu.hid hok
    clear hok
    go_enter Tryd.func10, Tryd.ntmps10
    go_wp2_with (first
      | (go_at_call 18; refine (proofOf17_edges _ _ _ _ _ _ _).mono ?_; rintro e w1 ⟨rfl, hb1⟩; have HB := Nu.hid (HZ.out.trans (hb1.mono HZ.out.size)); clear hb1)
      | (go_at_call 90; refine (pfitsE17_any (c := ce) (HA.out.later HB.out) hs).mono ?_; rintro e w2 ⟨⟨t, rfl, htt⟩, hb2⟩; obtain rfl : t = false := by { cases t with | false => rfl | true => exact absurd (htt.1 rfl) HOK.out }; have HB2 := Nu.hid (HB.out.trans (hb2.mono HB.out.size)); clear hb2 htt))
    go_ret2
    exact ⟨⟨fun _ => rfl, fun h => absurd (HGD.out.1 h) HOK.out⟩, HB2.out⟩
theorem print17_edges_no {w : World} {na ne : Nat} {ao eo : Option Addr} {ca ce : Nat} (hn : na ≠ 0) :
    Calls Tryd.prog 10 #[.agg #[.bool false, .slice ao na ca, .slice eo ne ce]] w fun e w' => e = .returned (.tuple #[.string ⟨#[]⟩, .int .i64 170]) ∧ Below w.heap.size w w' := by
  have hz : Below w.heap.size w (w.alloc (.cells #[.bool false, .slice ao na ca, .slice eo ne ce] 27)) := (Below.refl _ _).alloc (Nat.le_refl _) _
  have hni : ((na : Int) == 0) = false := by simp [hn]
  go_enter Tryd.func10, Tryd.ntmps10
  go_wp2_with (go_at_call 18; refine (proofOf17_edges _ _ _ _ _ _ _).mono ?_; rw [hni]; rintro e w1 ⟨rfl, hb1⟩)
  go_ret2
  exact ⟨rfl, hz.trans (hb1.mono hz.size)⟩

/-- The numbers that the program's Print asks. -/
structure Ce.FitsP (c : Ce.Cert) : Prop where
  ar : c.ar.length ≤ 4611686018427387904
  es : c.es.length ≤ 4611686018427387904
  row : ∀ l ∈ c.ar, l.length ≤ 4611686018427387
theorem print17_any {w : World} {v : Value} {c : Ce.Cert} {ao eo : Option Addr} {ca ce : Nat} (h : Ce.Sees w v c ao eo ca ce) (hf : Ce.FitsP c) (ht : Tab w) :
    Calls Tryd.prog 10 #[v] w fun e w' => PrintP c e ∧ Below w.heap.size w w' := by
  rw [h.val]
  have ha := h.ar
  have he := h.es
  have h1 := hf.ar
  have h2 := hf.es
  have h3 := hf.row
  clear h hf
  obtain ⟨pl, ar, es⟩ := c
  dsimp only at ha he h1 h2 h3 ⊢
  cases pl with
  | true =>
    cases es with
    | nil => exact print17_lists ha h1 h3 ht
    | cons p r =>
      refine (print17_lists_no (by simp)).mono fun e w' h => ⟨⟨fun _ => h.1, fun hg => ?_⟩, h.2⟩
      unfold Ce.good at hg
      rw [if_pos rfl] at hg
      exact absurd hg.1 (by simp)
  | false =>
    cases ar with
    | nil => exact print17_edges he h2 ht
    | cons p r =>
      refine (print17_edges_no (by simp)).mono fun e w' h => ⟨⟨fun _ => h.1, fun hg => ?_⟩, h.2⟩
      unfold Ce.good at hg
      rw [if_neg (by simp)] at hg
      exact absurd hg.1 (by simp)
end Go.Proofs.YtfjgmbimapkabaaDoor
