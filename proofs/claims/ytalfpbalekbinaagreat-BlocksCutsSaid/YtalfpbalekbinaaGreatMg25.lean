import Derived.Test.YtalfpbalekbinaaGreatMg24
import Derived.Test.YtalfpbalekbinaaGreatMg20
import Derived.Test.YtalfpbalekbinaaGreatMg15
import Derived.Test.YtalfpbalekbinaaGreatMgS1
import Derived.Test.YtalfpbalekbinaaGreatMg09
import Derived.Maps.OwnIn
/-
  isIn: is an edge of v in block k?
-/
namespace Go.Proofs.YtalfpbalekbinaaGreat
open Go.RowKit Go.Shelf

attribute [local go_sem] Oper.semAt_some

section
variable {w : World} {p : Nat} {av : Value} {mb : Nat} {lo : Option Addr} {lc : Nat} {go : Nat} {n : Nat} {es : List (Int × Int)} {s : Df.St} {F : List (List Nat)} {D : DataW Value} {K : List Nat}

set_option maxRecDepth 100000 in
set_option maxHeartbeats 16000000 in
theorem isIn_any9 (f : Nat → Nat) (v : Nat) (kk : Int) (hv : v < n) (h : PtIn w p av mb lo lc (.slice (some ⟨go, 0, none⟩) es.length es.length) n es s F D K) (hio : IntsBlk w go (Bl.nums es.length f)) (b : Bool) (hb : b = true ↔ ∃ z ∈ Cs.outZ n es v, (Bl.nh f z : Int) = kk) :
    Calls Tryz.prog 42 #[.pointer (some ⟨p, 0, none⟩), .int .i64 (v : Int), .int .i64 kk] w fun e w' => e = .returned (.bool b) ∧ Below w.heap.size w w' := by
  have hfew := h.val.few
  have hpl := h.lt
  have hpl1 : p < w.heap.size + 1 := by omega
  have hpl2 : p < w.heap.size + 1 + 1 := by omega
  obtain ⟨c0, -, -, c3, -⟩ := h.cells
  have hgl := hio.lt
  obtain ⟨w2, hw2⟩ : ∃ w2, w2 = ((w.alloc (.cells #[.pointer (some ⟨p, 0, none⟩)] 41)).alloc (.cells #[.int .i64 kk] 3)).alloc (.cells #[.bool false] 4) := ⟨_, rfl⟩
  have hB3 : Below w.heap.size w w2 := by rw [hw2]; exact (((Below.refl _ _).alloc (Nat.le_refl _) _).alloc (by simp) _).alloc (by simp; omega) _
  have bp3 : Boxed w2 w.heap.size 41 (.pointer (some ⟨p, 0, none⟩)) := by rw [hw2]; exact ((Boxed.new w _ _).alloc _).alloc _
  have bf2 : Boxed w2 (w.heap.size + 1) 3 (.int .i64 kk) := by
    have := Boxed.new (w.alloc (.cells #[.pointer (some ⟨p, 0, none⟩)] 41)) 3 (.int .i64 kk)
    rw [World.size_alloc] at this
    rw [hw2]
    exact this.alloc _
  have br3 : Boxed w2 (w.heap.size + 1 + 1) 4 (.bool false) := by
    have := Boxed.new ((w.alloc (.cells #[.pointer (some ⟨p, 0, none⟩)] 41)).alloc (.cells #[.int .i64 kk] 3)) 4 (.bool false)
    rw [World.size_alloc, World.size_alloc] at this
    rw [hw2]
    exact this
  have HOUT2 : Hid (Calls Tryz.prog 58 #[av, .int .i64 (v : Int)] w2 (ItPost8 n es (v : Int) w w2)) := citer8_any av n es (v : Int) w w2 h.adj hB3
  have hzl : (Cs.outZ n es v).length ≤ 8388608 := by
    rw [Cs.outZ_len]
    have := Cs.outI_len_le (n := n) (es := es) (v := (v : Int))
    omega
  have HZL := Nu.hid hzl
  have H := Nu.hid h
  have HIO := Nu.hid hio
  have HBI := Nu.hid hb
  have HW2 := Nu.hid hw2
  clear h hio hb hzl hw2 c3
  refine (callsIn_wide (n := 9)).1 ?_
  refine callsIn_of_wp_marks Tryz.func42 rfl trivial ?_ rfl
  simp only [Tryz.ntmps42, List.size_toArray, List.length_cons, List.length_nil, Nat.reduceAdd, Nat.reduceSub, Array.replicate_succ, Array.replicate_zero, List.push_toArray, List.append_toArray, List.nil_append, List.cons_append]
  refine wpIn_wide.2 ?_
  go_wp2_with (go_at_call 58; rw [← HW2.out]; refine HOUT2.out.mono ?_; rintro e w6 ⟨Bs, ao, cap, rfl, hBse, hbox, hints, hb6⟩; have HBS : Hid (Bs = w2.heap.size) := hBse; clear hBse)
  refine (wpIn_wide (n := 9)).1 ?_
  have hB6 : Below w.heap.size w w6 := hB3.trans (hb6.mono hB3.size)
  have hund : IntsUnder w.heap.size w6 ao (Cs.outZ n es v) := hints.under hB6
  have bp6 : Boxed w6 w.heap.size 41 (.pointer (some ⟨p, 0, none⟩)) := (hb6.block _ bp3.lt).trans bp3
  have br6 : Boxed w6 (w.heap.size + 1 + 1) 4 (.bool false) := (hb6.block _ br3.lt).trans br3
  have bf6 : Boxed w6 (w.heap.size + 1) 3 (.int .i64 kk) := (hb6.block _ bf2.lt).trans bf2
  refine it_out (n := 9) (gf := 81) (lb := #[.pointer (some ⟨Bs, 0, none⟩)]) (by rfl) (enters_of Tryz.func81 (by kernel_rfl) rfl)
    (out_it Bs w.heap.size cap (fun _ => False) ao (Cs.outZ n es v) HZL.out w6 hB6.size (fun h => h) hbox hund) hB6.size (fun _ => rfl)
    (fun pre W => (∀ z ∈ pre, (Bl.nh f z : Int) ≠ kk) ∧ Kep w.heap.size (fun _ => False) w6 W) (fun c _ W => c = .ret ∧ ((∃ z ∈ Cs.outZ n es v, (Bl.nh f z : Int) = kk) ∧ Boxed W (w.heap.size + 1 + 1) 4 (.bool true)) ∧ Kep w.heap.size (fun b => b = w.heap.size + 1 + 1) w6 W)
    (OwnFrom.and (fun _ _ _ _ hs _ _ => hs) (Kep.own hB6.size hB6.size)) (fun c => OwnFrom.and (fun _ _ _ _ hs _ _ => hs) (OwnFrom.and (OwnFrom.and (fun _ _ _ _ hs _ _ => hs) (Own.from (boxed_own _ _ _) _)) (Kep.own hB6.size hB6.size))) ⟨fun z hz => (by cases hz), Kep.refl _ _ _⟩
    (fun k a' _ => a' = { tmps := #[.pointer (some ⟨p, 0, none⟩), .int .i64 (v : Int), .int .i64 kk, .pointer (some ⟨w.heap.size, 0, none⟩), undef, .pointer (some ⟨w.heap.size + 1, 0, none⟩), .pointer (some ⟨w.heap.size + 1 + 1, 0, none⟩), .int .i64 k, .pointer (some ⟨p, 0, none⟩), .pointer (some ⟨p, 0, none⟩), .pointer (some ⟨p, 0, none⟩), av, .int .i64 (v : Int), .func (.func 81) #[] #[.pointer (some ⟨Bs, 0, none⟩)], .int .i64 k, undef, undef, undef, undef, undef, undef, undef, undef, undef, undef], defers := [] })
    (fun k a' => ownFrom_pure _ _) ?assign ?body ?done ?stop
  case assign =>
    intro l2 pre k W K _ hi hK
    gi_wp2
    exact hK _ _ (KeepsFrom.refl _ _) (Kep.refl _ _ _) hi rfl
  case body =>
    rintro l2 pre k a' A ⟨hl2', -⟩ _ hpx ⟨hpre, hkA⟩ rfl
    have hkm : k ∈ Cs.outZ n es v := hpx.subset (List.mem_append_right pre (List.mem_singleton.2 rfl))
    obtain ⟨i, rfl, hi, hfr⟩ := (mem_outZ hv).1 hkm
    have hA : Below w.heap.size w A := hB6.trans hkA.1
    obtain ⟨jh, hjh⟩ : ∃ jh, i / 2 = jh := ⟨_, rfl⟩
    obtain ⟨td1, td2⟩ := nat_half hjh
    have q0 : (0 : Int) ≤ (jh : Int) := by omega
    have q1 : (jh : Int) < (es.length : Int) := by omega
    have wr1 : IntKind.i64.wrap (jh : Int) = (jh : Int) := wrap_few9 jh (by omega)
    have bpA := hkA.boxed bp6 (fun h => h)
    have bfA := hkA.boxed bf6 (fun h => h)
    have brA := hkA.boxed br6 (fun h => h)
    have cb1 : ∀ E : LW A, E.val.cell? ⟨w.heap.size, 0, none⟩ = some (.pointer (some ⟨p, 0, none⟩)) := fun E => Boxed.cell ((E.h.block _ bpA.lt).trans bpA)
    have cf1 : ∀ E : LW A, E.val.cell? ⟨w.heap.size + 1, 0, none⟩ = some (.int .i64 kk) := fun E => Boxed.cell ((E.h.block _ bfA.lt).trans bfA)
    have c31 : ∀ E : LW A, E.val.cell? ⟨p, 3, none⟩ = some (.slice (some ⟨go, 0, none⟩) es.length es.length) := fun E => ((H.out.later hA).later E.h).cells.2.2.2.1
    have d1 : ∀ E : LW A, E.val.cell? ⟨go, jh, none⟩ = some (.int .i64 (f jh : Int)) := fun E => ((HIO.out.later hA).later E.h).cell (Bl.nums_at (f := f) (by omega))
    have hne := LW.any A
    have hn1 : Bl.nh f (i : Int) = f jh := by unfold Bl.nh; rw [Int.toNat_natCast, hjh]
    have HKA := Nu.hid hkA
    have HPRE := Nu.hid hpre
    have HN1 := Nu.hid hn1
    have HKM := Nu.hid hkm
    have HBR := Nu.hid brA
    have HHA := Nu.hid hA
    clear hkA hpre hn1 hkm brA bpA bfA hA hjh
    by_cases hff : (f jh : Int) = kk
    · have eb : ((f jh : Int) == kk) = true := by simp [hff]
      have HFF := Nu.hid hff
      clear hff
      gi_wp2
      refine wpIn_region_lw (by kernel_rfl) (by kernel_rfl) (by kernel_rfl) ?_
      repeat (go_big_quiet_step (fail))
      refine wpQuiet_nil ?_
      rintro _ ⟨E, rfl⟩
      obtain ⟨A2, hA2e⟩ : ∃ A2, A2 = E.val := ⟨_, rfl⟩
      have hA2 : Below A.heap.size A A2 := by rw [hA2e]; exact E.h
      have brE : Boxed A2 (w.heap.size + 1 + 1) 4 (.bool false) := (hA2.block _ HBR.out.lt).trans HBR.out
      have cr := brE.cell
      have fr := brE.frozen
      rw [← hA2e]
      have HBE := Nu.hid brE
      have HEND : Hid (KeepsFrom w6.heap.size A (A2.setCell ⟨w.heap.size + 1 + 1, 0, none⟩ (.bool true)) ∧ ((∃ z ∈ Cs.outZ n es v, (Bl.nh f z : Int) = kk) ∧ Boxed (A2.setCell ⟨w.heap.size + 1 + 1, 0, none⟩ (.bool true)) (w.heap.size + 1 + 1) 4 (.bool true)) ∧ Kep w.heap.size (fun b => b = w.heap.size + 1 + 1) w6 (A2.setCell ⟨w.heap.size + 1 + 1, 0, none⟩ (.bool true))) := by
        refine ⟨(kf_below hA2).trans (kf_wrote (S := fun k => k = w.heap.size + 1 + 1) ((Wrote.refl (fun k => k = w.heap.size + 1 + 1) A2).setCell (b := w.heap.size + 1 + 1) (i := 0) rfl (.bool true)) (fun k _ hk => .inl (by rw [hk]; exact br6.lt))), ⟨⟨(i : Int), HKM.out, by rw [HN1.out]; exact HFF.out⟩, HBE.out.set _⟩, ?_⟩
        have h1 : Kep w.heap.size (fun b => b = w.heap.size + 1 + 1) w6 A := ⟨HKA.out.1, fun b o hb ho _ => HKA.out.2 b o hb ho (fun h => h)⟩
        exact (h1.grow hA2 HHA.out.size).set (p := ⟨w.heap.size + 1 + 1, 0, none⟩) (by show _ ≤ w.heap.size + 1 + 1; omega) rfl _
      clear cb1 cf1 c31 d1 hne hA2e hA2 brE
      gi_wp2
      exact ⟨HEND.out.1, rfl, HEND.out.2⟩
    · have eb : ((f jh : Int) == kk) = false := by simp [hff]
      have HFF := Nu.hid hff
      clear hff
      gi_wp2
      refine wpIn_region_lw (by kernel_rfl) (by kernel_rfl) (by kernel_rfl) ?_
      repeat (go_big_quiet_step (fail))
      refine wpQuiet_nil ?_
      rintro _ ⟨E, rfl⟩
      have hE := E.h
      clear cb1 cf1 c31 d1 hne
      gi_wp2
      refine ⟨kf_below hE, (Kep.refl _ _ _).grow hE HHA.out.size, fun z hz => ?_, HKA.out.grow hE HHA.out.size⟩
      rcases List.mem_append.1 hz with hz | hz
      · exact HPRE.out z hz
      · rw [List.mem_singleton.1 hz, HN1.out]
        exact HFF.out
  case done =>
    rintro Dd W hD ⟨hall, hkW⟩ hK
    have brW := hkW.boxed br6 (fun h => h)
    have cr := brW.cell
    have fr := brW.frozen
    have hbf : b = false := by
      cases hq : b with
      | false => rfl
      | true =>
        obtain ⟨z, hz, hne⟩ := HBI.out.1 hq
        exact absurd hne (hall z hz)
    subst hbf
    have hrl6 := br6.lt
    have HBW2 := Nu.hid brW
    have HKW := Nu.hid hkW
    have HK := Nu.hid hK
    clear hall hkW brW hK
    go_wp2
    have hK2 : (W.setCell ⟨w.heap.size + 1 + 1, 0, none⟩ (.bool false)).heap[Dd]? = some (.deferred (some [])) := (heap_setCell_other W ⟨w.heap.size + 1 + 1, 0, none⟩ Dd _ (by simp; omega)).trans HK.out
    refine ⟨by simp, .inl ⟨_, _, rfl, run_takeDeferred hK2, ?_⟩⟩
    have hbx : Boxed (W.setCell ⟨w.heap.size + 1 + 1, 0, none⟩ (.bool false)) (w.heap.size + 1 + 1) 4 (.bool false) := HBW2.out.set _
    have hbelW : Below w.heap.size w (W.setCell ⟨w.heap.size + 1 + 1, 0, none⟩ (.bool false)) := (hB6.trans HKW.out.1).setCell (p := ⟨w.heap.size + 1 + 1, 0, none⟩) (by show _ ≤ w.heap.size + 1 + 1; omega) _
    refine ⟨_, results_cell1 rfl _ _ ⟨w.heap.size + 1 + 1, 0, none⟩ (.bool false) rfl ?_ (by kernel_rfl), rfl, ?_⟩
    · exact Boxed.cell (OwnFrom.putObj (β := Unit) (B := w6.heap.size) (I := fun _ X => Boxed X (w.heap.size + 1 + 1) 4 (.bool false)) (Own.from (boxed_own _ _ _) _) (s := ()) _ hbx hD hK2 rfl)
    · exact hbelW.trans (belowK_b (w := w) (Nat.le_refl _) _ Dd _ _ (by have := hB6.size; omega) hK2 rfl rfl)
  case stop =>
    rintro Dd c pre W hD _ ⟨rfl, ⟨hex, brW⟩, hkW⟩ hK
    have hbt : b = true := HBI.out.2 hex
    subst hbt
    have hbelW : Below w.heap.size w W := hB6.trans hkW.1
    gi_wp2
    refine ⟨by simp, .inl ⟨_, _, rfl, run_takeDeferred hK, ?_⟩⟩
    refine ⟨_, results_cell1 rfl _ _ ⟨w.heap.size + 1 + 1, 0, none⟩ (.bool true) rfl ?_ (by kernel_rfl), rfl, ?_⟩
    · exact Boxed.cell (OwnFrom.putObj (β := Unit) (B := w6.heap.size) (I := fun _ X => Boxed X (w.heap.size + 1 + 1) 4 (.bool true)) (Own.from (boxed_own _ _ _) _) (s := ()) _ brW hD hK rfl)
    · exact hbelW.trans (belowK_b (w := w) (Nat.le_refl _) _ Dd _ _ (by have := hB6.size; omega) hK rfl rfl)
end
end Go.Proofs.YtalfpbalekbinaaGreat

/-
  Blocks, pure: the blocks that a vertex is in, by the half-edges that leave it.
-/
namespace Go.Proofs.YtalfpbalekbinaaGreat
namespace Bl
open Df Lo

theorem cnt_two {q : Nat → Bool} : ∀ {n : Nat}, 1 < Co.cntTo q n ↔ ∃ a b, a < n ∧ b < n ∧ a ≠ b ∧ q a = true ∧ q b = true
  | 0 => ⟨fun h => by simp [Co.cntTo] at h, fun ⟨a, b, h, _⟩ => by omega⟩
  | n + 1 => by
    have ih := cnt_two (q := q) (n := n)
    have pos : 0 < Co.cntTo q n ↔ ∃ a, a < n ∧ q a = true := by
      constructor
      · intro h
        clear ih
        induction n with
        | zero => simp [Co.cntTo] at h
        | succ n ih =>
          rw [Co.cntTo] at h
          by_cases hq : q n = true
          · exact ⟨n, by omega, hq⟩
          · rw [if_neg hq] at h
            obtain ⟨a, ha, hqa⟩ := ih (by omega)
            exact ⟨a, by omega, hqa⟩
      · rintro ⟨a, ha, hqa⟩
        exact Co.cntTo_pos n ha hqa
    rw [Co.cntTo]
    by_cases hq : q n = true
    · rw [if_pos hq]
      constructor
      · intro h
        obtain ⟨a, ha, hqa⟩ := pos.1 (by omega)
        exact ⟨a, n, by omega, by omega, by omega, hqa, hq⟩
      · rintro ⟨a, b, ha, hb, hne, hqa, hqb⟩
        have : 0 < Co.cntTo q n := by
          by_cases e : a = n
          · exact pos.2 ⟨b, by omega, hqb⟩
          · exact pos.2 ⟨a, by omega, hqa⟩
        omega
    · rw [if_neg hq, Nat.add_zero, ih]
      constructor
      · rintro ⟨a, b, ha, hb, r⟩
        exact ⟨a, b, by omega, by omega, r⟩
      · rintro ⟨a, b, ha, hb, hne, hqa, hqb⟩
        have h1 : a ≠ n := fun e => hq (by rw [← e]; exact hqa)
        have h2 : b ≠ n := fun e => hq (by rw [← e]; exact hqb)
        exact ⟨a, b, by omega, by omega, hne, hqa, hqb⟩

section
variable {n : Nat} {es : List (Int × Int)} {f : Nat → Nat} {c : Nat}

/-- An edge ends at v just if one of its half-edges leaves it. -/
theorem at_half (hv : Si.Val n es) {e v : Nat} {p : Int × Int} (hp : es[e]? = some p) : (p.1 = (v : Int) ∨ p.2 = (v : Int)) ↔ ∃ i, i / 2 = e ∧ i < 2 * es.length ∧ Cs.fr es i = v := by
  have hel := (List.getElem?_eq_some_iff.1 hp).1
  have hok := hv.each e p hp
  unfold Si.ok at hok
  have h1 : Cs.fr es (2 * e) = p.1.toNat := by
    unfold Cs.fr
    rw [show 2 * e / 2 = e by omega, List.getD_eq_getElem?_getD, hp, if_pos (by omega)]
    rfl
  have h2 : Cs.fr es (2 * e + 1) = p.2.toNat := by
    unfold Cs.fr
    rw [show (2 * e + 1) / 2 = e by omega, List.getD_eq_getElem?_getD, hp, if_neg (by omega)]
    rfl
  constructor
  · rintro (h | h)
    · exact ⟨2 * e, by omega, by omega, by rw [h1]; omega⟩
    · exact ⟨2 * e + 1, by omega, by omega, by rw [h2]; omega⟩
  · rintro ⟨i, h3, h4, h5⟩
    have : i = 2 * e ∨ i = 2 * e + 1 := by omega
    rcases this with rfl | rfl
    · rw [h1] at h5
      exact .inl (by omega)
    · rw [h2] at h5
      exact .inr (by omega)
open Classical in
theorem hit_iff (hv : Si.Val n es) {v k : Nat} (hvn : v < n) : hitB es f (v : Int) k es.length = true ↔ ∃ z ∈ Cs.outZ n es v, nh f z = k := by
  unfold hitB
  rw [decide_eq_true_iff]
  constructor
  · rintro ⟨e, p, he, hp, hf, ha⟩
    obtain ⟨i, h1, h2, h3⟩ := (at_half hv hp).1 ha
    exact ⟨(i : Int), (mem_outZ hvn).2 ⟨i, rfl, h2, h3⟩, by unfold nh; rw [Int.toNat_natCast, h1]; exact hf⟩
  · rintro ⟨z, hz, hk⟩
    obtain ⟨i, rfl, h2, h3⟩ := (mem_outZ hvn).1 hz
    unfold nh at hk
    rw [Int.toNat_natCast] at hk
    obtain ⟨p, hp⟩ : ∃ p, es[i / 2]? = some p := ⟨_, List.getElem?_eq_getElem (by omega)⟩
    exact ⟨i / 2, p, by omega, hp, hk, (at_half hv hp).2 ⟨i, rfl, h2, h3⟩⟩
theorem first_mem {v : Nat} (h : Cs.outZ n es v ≠ []) : Cs.firstI n es v ∈ Cs.outZ n es v := by
  unfold Cs.firstI
  cases hq : Cs.outZ n es v with
  | nil => exact absurd hq h
  | cons y l => simp
theorem cut_iff (hv : Si.Val n es) (hf : ∀ e, e < es.length → f e < c) {v : Nat} (hvn : v < n) : (∃ z ∈ Cs.outZ n es v, nh f z ≠ nh f (Cs.firstI n es v)) ↔ 1 < inB es f (v : Int) c := by
  unfold inB
  rw [cnt_two]
  have hlt : ∀ z ∈ Cs.outZ n es v, nh f z < c := fun z hz => by
    obtain ⟨i, rfl, h2, h3⟩ := (mem_outZ hvn).1 hz
    unfold nh
    exact hf _ (by rw [Int.toNat_natCast]; omega)
  constructor
  · rintro ⟨z, hz, hne⟩
    have hz0 := first_mem (n := n) (es := es) (v := v) (fun e => by rw [e] at hz; cases hz)
    exact ⟨_, _, hlt z hz, hlt _ hz0, hne, (hit_iff hv hvn).2 ⟨z, hz, rfl⟩, (hit_iff hv hvn).2 ⟨_, hz0, rfl⟩⟩
  · rintro ⟨a, b, _, _, hne, ha, hb⟩
    obtain ⟨z1, hz1, e1⟩ := (hit_iff hv hvn).1 ha
    obtain ⟨z2, hz2, e2⟩ := (hit_iff hv hvn).1 hb
    by_cases h : nh f z1 = nh f (Cs.firstI n es v)
    · exact ⟨z2, hz2, by omega⟩
    · exact ⟨z1, hz1, h⟩

/-- The vertices below j that are in block k. -/
noncomputable def vsTo (es : List (Int × Int)) (f : Nat → Nat) (k : Int) (j : Nat) : List Int := ((List.range j).filter fun v : Nat => 0 ≤ k && hitB es f (v : Int) k.toNat es.length).map fun v : Nat => (v : Int)
theorem vsTo_yes {k j : Nat} (h : hitB es f (j : Int) k es.length = true) : vsTo es f (k : Int) (j + 1) = vsTo es f (k : Int) j ++ [(j : Int)] := by
  unfold vsTo
  rw [List.range_succ, List.filter_append, List.map_append, List.filter_cons_of_pos (by simpa using h)]
  rfl
theorem vsTo_no {k j : Nat} (h : hitB es f (j : Int) k es.length = false) : vsTo es f (k : Int) (j + 1) = vsTo es f (k : Int) j := by
  unfold vsTo
  rw [List.range_succ, List.filter_append, List.map_append, List.filter_cons_of_neg (by simpa using h)]
  simp
theorem vsTo_length (k : Int) (j : Nat) : (vsTo es f k j).length ≤ j := by
  unfold vsTo
  rw [List.length_map]
  exact Nat.le_trans (List.length_filter_le _ _) (by simp)
end
end Bl
end Go.Proofs.YtalfpbalekbinaaGreat

/-
  slices.Sorted of slices.Values of ints.
-/
namespace Go.Proofs.YtalfpbalekbinaaGreat
open Go.RowKit Go.Shelf

attribute [local go_sem] Oper.semAt_some

def ValPost (ao : Option Addr) (n c : Nat) (w : World) (e : Ending) (w' : World) : Prop :=
  ∃ Bs, e = .returned (.func (.func 63) #[] #[.pointer (some ⟨Bs, 0, none⟩)]) ∧ w.heap.size ≤ Bs ∧ Boxed w' Bs 26 (.slice ao n c) ∧ Below w.heap.size w w'

theorem values_any (ao : Option Addr) (n c : Nat) (w : World) : Calls Tryz.prog 44 #[.slice ao n c] w (ValPost ao n c w) := by
  go_enter Tryz.func44, Tryz.ntmps44
  go_wp2
  go_ret
  exact ⟨w.heap.size, rfl, Nat.le_refl _, Boxed.new w _ _, (Below.refl _ _).alloc (Nat.le_refl _) _⟩

set_option maxRecDepth 100000 in
set_option maxHeartbeats 2000000 in
/-- slices.Values' closure. -/
theorem values_it (Bs n₀ cap : Nat) (S : Nat → Prop) (ao : Option Addr) (zs : List Int) (hz : zs.length ≤ 8388608) (w : World) (hn₀ : n₀ ≤ w.heap.size) (hS : ¬ S Bs) (hB : Boxed w Bs 26 (.slice ao zs.length cap)) (hc : IntsUnder n₀ w ao zs) :
    SeqIt Tryz.prog 63 #[.pointer (some ⟨Bs, 0, none⟩)] enc1 n₀ S zs w 0 := by
  intro l J Jx W hW _ _ _ hY h0
  have hBW : Boxed W Bs 26 (.slice ao zs.length cap) := (hW.block Bs hB.lt).trans hB
  have hcW := hc.below (hW.mono hn₀)
  have hb0 := hBW.cell
  have HN : Hid (n₀ ≤ W.heap.size) := Nat.le_trans hn₀ hW.size
  clear hc hB hW
  refine (callsIn_wide (n := 5)).1 ?_
  refine callsIn_of_wp Tryz.func63 rfl trivial ?_ rfl
  simp only [Tryz.ntmps63, List.size_toArray, List.length_cons, List.length_nil, Nat.reduceAdd, Nat.reduceSub, Array.replicate_succ, Array.replicate_zero, List.push_toArray, List.append_toArray, List.nil_append, List.cons_append]
  gi_wp2
  gi_loopw [7] (fun i wr => ∃ k : Nat, k ≤ zs.length ∧ i = .int .i64 k ∧ J (zs.take k) wr ∧ Kep n₀ S W wr ∧ W.heap.size ≤ wr.heap.size) (fun i _ => zs.length - (intOf i).toNat)
  case atStart => exact ⟨0, Nat.zero_le _, rfl, by simpa using h0, Kep.refl _ _ _, Nat.le_refl _⟩
  case round =>
    obtain ⟨k, hk, rfl, hJs, hnx, hsz⟩ := hrel
    by_cases hlt : k < zs.length
    · obtain ⟨z, hz0⟩ : ∃ z, zs[k]? = some z := ⟨_, List.getElem?_eq_getElem hlt⟩
      obtain ⟨b, o, rfl, hbn, hcz⟩ := hcW k z hz0
      have hb1 : wr.cell? ⟨Bs, 0, none⟩ = some (.slice (some ⟨b, o, none⟩) zs.length cap) := hnx.cell hb0 hS
      have hc1 : wr.cell? ⟨b, o + k, none⟩ = some (.int .i64 z) := (hnx.1.cell (p := ⟨b, o + k, none⟩) hbn).trans hcz
      obtain ⟨fn, tmps, assign, body, hy, hR⟩ := hY (zs.take k) z wr (take_pre hz0) hJs (by omega) 4
      have hsn : zs.take (k + 1) = zs.take k ++ [z] := by
        rw [List.take_add_one, hz0]
        rfl
      have hk0 : (0 : Int) ≤ (k : Int) := by omega
      have hk1 : (k : Int) < (zs.length : Int) := by omega
      have HSN := Nu.hid hsn
      have HJ := Nu.hid hJs
      have HNX := Nu.hid hnx
      have HSZ := Nu.hid hsz
      clear hsn hJs hnx hY hcz hz0 hsz
      gi_wp2
      refine hR.mono ?_
      rintro e W3 ⟨hkf, (⟨rfl, hJ3, hk3⟩ | ⟨rfl, hJx3⟩)⟩
      · have HJ3 := Nu.hid hJ3
        have HK3 := Nu.hid hk3
        have HS3 := Nu.hid hkf.size
        clear hJ3 hk3 hkf
        gi_wp2
        go_roundw
        case rel => exact ⟨k + 1, by omega, by go_num, by rw [HSN.out]; exact HJ3.out, HNX.out.trans HK3.out, Nat.le_trans HSZ.out HS3.out⟩
        case measure => simp [intOf]; omega
      · have HJX3 := Nu.hid hJx3
        clear hJx3
        gi_wp2
        refine bodyPost_ret (results_none rfl _ _ _) rfl ?_
        exact ⟨⟨_, rfl⟩, .inr ⟨_, by rw [← HSN.out]; exact List.take_prefix _ _, HJX3.out⟩⟩
    · have hd : ¬ ((k : Int) < (zs.length : Int)) := by omega
      have HJ : Hid (J zs wr) := by
        show J zs wr
        rw [List.take_of_length_le (by omega)] at hJs
        exact hJs
      clear hJs hnx hY
      gi_wp2
      go_end0
      exact ⟨⟨_, rfl⟩, .inl HJ.out⟩


theorem kep_below {n₀ : Nat} {A V : World} (h : Below n₀ A V) : Kep n₀ (fun b => n₀ ≤ b) A V := ⟨h, fun b _ hb _ hs => (h.block b (by omega)).trans hb⟩

set_option maxRecDepth 100000 in
set_option maxHeartbeats 16000000 in
theorem appendSeq_any (Bs cap : Nat) (ao : Option Addr) (zs : List Int) (w : World) (hz : zs.length ≤ 4194304) (hB : Boxed w Bs 26 (.slice ao zs.length cap)) (hc : IntsAt w ao zs) :
    Calls Tryz.prog 83 #[.slice none 0 0, .func (.func 63) #[] #[.pointer (some ⟨Bs, 0, none⟩)]] w fun e w' => ∃ a k c, e = .returned (.slice a k c) ∧ OwnZ w' w.heap.size (.slice a k c) zs ∧ Below w.heap.size w w' := by
  obtain ⟨i0, hi, hz0, hz1, hz2⟩ := info_parts Tryz.infoNum
  obtain ⟨w1, hw1⟩ : ∃ w1, w1 = w.alloc (.cells #[.slice none 0 0] 26) := ⟨_, rfl⟩
  have hb1 : Below w.heap.size w w1 := by rw [hw1]; exact (Below.refl _ _).alloc (Nat.le_refl _) _
  have bx1 : Boxed w1 w.heap.size 26 (.slice none 0 0) := by rw [hw1]; exact Boxed.new w _ _
  have bs1 : Boxed w1 Bs 26 (.slice ao zs.length cap) := (hb1.block _ hB.lt).trans hB
  have hund : IntsUnder w.heap.size w1 ao zs := hc.under hb1
  have hBl := hB.lt
  have HW1 := Nu.hid hw1
  have hs1 : w.heap.size < w1.heap.size := bx1.lt
  clear hw1 hB hc
  refine (callsIn_wide (n := 9)).1 ?_
  refine callsIn_of_wp_marks Tryz.func83 rfl trivial ?_ rfl
  simp only [Tryz.ntmps83, List.size_toArray, List.length_cons, List.length_nil, Nat.reduceAdd, Nat.reduceSub, Array.replicate_succ, Array.replicate_zero, List.push_toArray, List.append_toArray, List.nil_append, List.cons_append]
  refine wpIn_wide.2 ?_
  go_wp2
  rw [← HW1.out]
  refine (wpIn_wide (n := 9)).1 ?_
  refine it_out (n := 9) (gf := 63) (lb := #[.pointer (some ⟨Bs, 0, none⟩)]) (by rfl) (enters_of Tryz.func63 (by kernel_rfl) rfl)
    (values_it Bs w.heap.size cap (fun b => w.heap.size ≤ b) ao zs (by omega) w1 hb1.size (by omega) bs1 hund) hb1.size (fun _ => rfl)
    (fun pre W => (∃ v, Boxed W w.heap.size 26 v ∧ OwnZ W w.heap.size v pre) ∧ Kep w.heap.size (fun b => w.heap.size ≤ b) w1 W) (fun _ _ _ => False)
    (OwnFrom.and (fun pre W W' row hs hg hr => by
      obtain ⟨v, h1, h2⟩ := hs
      have hcl : ∀ k o, W.heap[k]? = some o → o.isCells = true → some k ≠ row := fun k o hk ho e => by
        obtain ⟨_, o', ho', hc'⟩ := hr k e.symm
        rw [hk] at ho'
        cases ho'
        rw [ho] at hc'
        cases hc'
      refine ⟨v, (hg.block _ h1.lt (hcl _ _ h1 rfl)).trans h1, h2.same fun g hgb hl => hg.block g hl ?_⟩
      rcases h2.2 with ⟨e1, _⟩ | ⟨g', cap', cur, e1, _, hh, _⟩
      · rw [e1] at hgb; cases hgb
      · rw [e1] at hgb
        obtain rfl : g' = g := Option.some.inj hgb
        exact hcl _ _ hh rfl) (Kep.own hb1.size hb1.size)) (fun _ _ _ _ _ hs _ _ => hs) ⟨⟨_, bx1, .nil _ _⟩, Kep.refl _ _ _⟩
    (fun k a' _ => a' = { tmps := #[.slice none 0 0, .func (.func 63) #[] #[.pointer (some ⟨Bs, 0, none⟩)], .pointer (some ⟨w.heap.size, 0, none⟩), undef, .slice none 0 0, .int .i64 k, .func (.func 63) #[] #[.pointer (some ⟨Bs, 0, none⟩)], .int .i64 k, undef, undef, undef, undef, undef], defers := [] })
    (fun k a' => ownFrom_pure _ _) ?assign ?body ?done ?stop
  case assign =>
    intro l2 pre k W K _ hi hK
    gi_wp2
    exact hK _ _ (KeepsFrom.refl _ _) (Kep.refl _ _ _) hi rfl
  case body =>
    rintro l2 pre k a' A ⟨hl2', -⟩ _ hpx ⟨⟨v, bv, hov⟩, hkA⟩ rfl
    have hpl : pre.length + 1 ≤ zs.length := by
      have := hpx.length_le
      simpa using this
    have cv := bv.cell
    have hAs : w.heap.size ≤ A.heap.size := Nat.le_trans hb1.size hkA.1.size
    obtain ⟨vo, vc, hve, -, -⟩ := hov.form
    subst hve
    have HOV := Nu.hid hov
    have HBV := Nu.hid bv
    have HKA := Nu.hid hkA
    clear hov hkA
    gi_wp2_with (gi_at_builtin; refine wpListIn_append_own_at _ rfl _ _ 26 rfl w.heap.size 3 i0 (.int .i64 0) 1 8 Tryz.underlying26 hi hz0 hz1 hz2 rfl (by decide) _ _ _ rfl (World.ownsRow.alloc HOV.out _) ⟨A.heap.size, 0, none⟩ 1 1 [.int .i64 k] rfl rfl (cell_one_new _ _ _) (by simp [Value.oneCell']) (by unfold maxLen; omega) (by omega) (by simp; omega) ?_; refine Hid.out ?_)
    refine Nu.hid ?_
    intro v4 w7 hown4 hgrow4 _ hat4
    obtain ⟨g4, c4', hv4⟩ := own_succ hown4
    subst hv4
    obtain ⟨q1, q2, q3, q4, q5⟩ := HBV.out.appended (by decide) HOV.out hAs (Nat.le_refl _) hown4 hgrow4
    have cu7 := q1.cell
    have fu7 := q1.frozen
    have ho4 : OwnZ (w7.setCell ⟨w.heap.size, 0, none⟩ (.slice (some ⟨g4, 0, none⟩) (pre.length + 1) c4')) w.heap.size (.slice (some ⟨g4, 0, none⟩) (pre.length + 1) c4') (pre ++ [k]) := by
      unfold OwnZ
      rw [List.length_append, List.map_append]
      exact q3
    have HO4 := Nu.hid ho4
    have HQ2 := Nu.hid q2
    have HQ4 := Nu.hid q4
    have HQ5 := Nu.hid q5
    clear q1 q2 q3 q4 q5 hown4 hgrow4 hat4 ho4
    gi_wp2
    exact ⟨HQ4.out.from _, kep_below HQ5.out, ⟨_, HQ2.out, HO4.out⟩, HKA.out.trans (kep_below HQ5.out)⟩
  case done =>
    rintro Dd W hD ⟨⟨v, bv, hov⟩, hkW⟩ hK
    have cv := bv.cell
    obtain ⟨vo, vc, hve, -, -⟩ := hov.form
    subst hve
    have HK := Nu.hid hK
    have HOV := Nu.hid hov
    have hbelW : Below w.heap.size w W := hb1.trans hkW.1
    clear hK hov hkW
    go_wp2
    refine ⟨by simp, .inl ⟨_, _, rfl, run_takeDeferred HK.out, ?_⟩⟩
    refine ⟨_, results_tmp rfl _ _ _, _, _, _, rfl, ?_, ?_⟩
    · refine HOV.out.same fun g hg hl => World.putObj_heap_other (fun e => ?_)
      rcases HOV.out.2 with ⟨e1, _⟩ | ⟨g', cap', cur, e1, _, hh, _⟩
      · rw [e1] at hg; cases hg
      · rw [e1] at hg
        obtain rfl : g' = g := Option.some.inj hg
        rw [e, HK.out] at hh
        cases hh
    · exact hbelW.trans (belowK_b (w := w) (Nat.le_refl _) W Dd _ _ (by omega) HK.out rfl rfl)
  case stop =>
    rintro Dd c pre W _ _ hx _
    exact hx.elim

set_option maxRecDepth 100000 in
set_option maxHeartbeats 16000000 in
theorem sorted_any9 (Bs cap : Nat) (ao : Option Addr) (zs : List Int) (w : World) (hz : zs.length ≤ 4194304) (hB : Boxed w Bs 26 (.slice ao zs.length cap)) (hc : IntsAt w ao zs) :
    Calls Tryz.prog 43 #[.func (.func 63) #[] #[.pointer (some ⟨Bs, 0, none⟩)]] w fun e w' => ∃ a k c, e = .returned (.slice a k c) ∧ OwnZ w' w.heap.size (.slice a k c) (zs.mergeSort fun x y => decide (x ≤ y)) ∧ Below w.heap.size w w' := by
  have HCO : Hid (Calls Tryz.prog 62 #[.func (.func 63) #[] #[.pointer (some ⟨Bs, 0, none⟩)]] w fun e w' => ∃ a k c, e = .returned (.slice a k c) ∧ OwnZ w' w.heap.size (.slice a k c) zs ∧ Below w.heap.size w w') := by
    have HA := Nu.hid (appendSeq_any Bs cap ao zs w hz hB hc)
    clear hB hc
    show Calls _ _ _ _ _
    go_enter Tryz.func62, Tryz.ntmps62
    go_wp2_with (go_at_call 83; refine HA.out.mono ?_; rintro e w1 ⟨a, k, c, rfl, h1, h2⟩; have H1 := Nu.hid h1; have H2 := Nu.hid h2; clear h1 h2)
    go_ret
    exact ⟨a, k, c, rfl, H1.out, H2.out⟩
  clear hB hc
  go_enter Tryz.func43, Tryz.ntmps43
  go_wp2_with (first | (go_at_call 62; refine HCO.out.mono ?_; rintro e w1 ⟨a, k, c, rfl, h1, h2⟩; have H1 := Nu.hid h1; have H2 := Nu.hid h2; have HS := Nu.hid (isort_any w.heap.size (.slice a k c) zs w1 h1 (by omega)); clear h1 h2) | (go_at_call 55; refine HS.out.mono ?_; rintro e w2 ⟨rfl, h3, h4⟩; have H3 := Nu.hid h3; have H4 := Nu.hid h4; clear h3 h4))
  go_ret
  exact ⟨a, k, c, rfl, H3.out, H2.out.grown H4.out H2.out.size (fun b hb => (World.ownsRow.lt H1.out b hb).1)⟩
end Go.Proofs.YtalfpbalekbinaaGreat
