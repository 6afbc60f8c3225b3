/-
  The program's Bare.
-/
import Derived.Test.YtdkckdbpbdhoaaaEdW1
import Derived.Test.YtdkckdbpbdhoaaaEdPl
import Derived.Test.YtdkckdbpbdhoaaaEdRn
import Derived.Test.YtdkckdbpbdhoaaaMgA
import Derived.Test.YtdkckdbpbdhoaaaSiDeg
import Derived.Test.YtdkckdbpbdhoaaaMgB
namespace Go.Proofs.Ytdkckdbpbdhoaaa
open Go.RowKit Go.Sort

/-- A graph, a list and an error's number are answered, the lists in new memory. -/
def BareP (r : Ed.Ans) (l : List Int) (w : World) (e : Ending) (w' : World) : Prop :=
  ∃ v u, e = .returned (.tuple #[.agg #[.int .i64 r.1, v], u, .int .i64 r.2.2]) ∧ OwnE w' w.heap.size v r.2.1 ∧ OwnZ w' w.heap.size u l ∧ (∀ b, v.ownBlock = some b → u.ownBlock ≠ some b) ∧ Below w.heap.size w w'

theorem ownz_put2 {W : World} {B r : Nat} {v : Value} {l : List Int} (h : OwnZ W B v l) (hr : v.ownBlock ≠ some r) (x y : Value) : OwnZ ((W.setCell ⟨r, 0, none⟩ x).setCell ⟨r, 1, none⟩ y) B v l :=
  h.same fun g hg _ => by
    have hne : g ≠ r := fun e => hr (by rw [hg, e])
    rw [heap_setCell_other _ ⟨r, 1, none⟩ g y hne, heap_setCell_other _ ⟨r, 0, none⟩ g x hne]

set_option maxRecDepth 100000 in
set_option maxHeartbeats 8000000 in
theorem ebare_any (n : Int) (ao : Option Addr) (cap : Nat) (es : List (Int × Int)) (w : World) (he : EdgesAt w ao es) (hl : es.length ≤ 4611686018427387904) :
    Calls Try.prog 26 #[graphVal n ao es.length cap] w (BareP (Ed.bare n es) (Ed.bareL n es) w) := by
  have HE := Nu.hid he
  have hdg := fun W (hb : Below w.heap.size w W) => degrees_any n ao cap es W (he.later hb) hl
  have hB0 := Bx1.start (w := w) (n := n) (ao := ao) (cap := cap) (es := es)
  unfold graphVal at hdg ⊢
  have HB0 := Nu.hid hB0
  clear he hB0
  cases hv : Si.valid n es with
  | false =>
    have HDG : Hid (∀ W, Below w.heap.size w W → Calls Try.prog 48 #[.agg #[.int .i64 n, .slice ao es.length cap]] W fun e w' => e = .returned (.tuple #[.slice none 0 0, .int .i64 1]) ∧ Below W.heap.size W w') := fun W hb => (hdg W hb).mono (by
      rintro e w' ⟨⟨h, _⟩ | ⟨_, h⟩, hb'⟩
      · rw [hv] at h; cases h
      · exact ⟨h, hb'⟩)
    have hr : Ed.bare n es = (0, [], 1) := by unfold Ed.bare; rw [if_pos hv]
    have hr2 : Ed.bareL n es = [] := by unfold Ed.bareL; rw [if_pos hv]
    rw [hr, hr2]
    clear hv hr hr2 hdg
    go_enter Try.func26, Try.ntmps26
    go_wp2_with (go_at_call 48; refine (HDG.out _ HB0.out.low).mono ?_; rintro e w1 ⟨rfl, hb⟩; have HB2 := Nu.hid (HB0.out.later hb); clear hb; obtain ⟨r0, r1⟩ := HB2.out.rcells; have f0 := HB2.out.free 0; have f1 := HB2.out.free 1)
    obtain ⟨hb, s0, s1⟩ := HB2.out.store (.int .i64 0) (.slice none 0 0)
    refine bodyPost_ret (v := .tuple #[.agg #[.int .i64 0, .slice none 0 0], .slice none 0 0, .int .i64 1]) (by simp [results, Try.results26, go_sem, s0, s1]) rfl ?_
    exact ⟨_, _, rfl, OwnE.nil _ _, OwnZ.nil _ _, (fun b h => (by cases h)), hb⟩
  | true =>
    have hval := Si.valid_iff.1 hv
    have hfew := hval.few
    have hlo := hval.lo
    have hhi := hval.hi
    obtain ⟨m, rfl⟩ : ∃ m : Nat, n = (m : Int) := ⟨n.toNat, by omega⟩
    have HDG : Hid (∀ W, Below w.heap.size w W → Calls Try.prog 48 #[.agg #[.int .i64 (m : Int), .slice ao es.length cap]] W fun e w' => ∃ g, e = .returned (.tuple #[.slice (some ⟨g, 0, none⟩) m m, .int .i64 0]) ∧ IntsBlk w' g (Si.degs (m : Int) es) ∧ W.heap.size ≤ g ∧ Below W.heap.size W w') := fun W hb => (hdg W hb).mono (by
      rintro e w' ⟨⟨_, g, m', h1, h2, h3, h4⟩ | ⟨h, _⟩, hb'⟩
      · obtain rfl : m = m' := by omega
        exact ⟨g, h2, h4, h3, hb'⟩
      · rw [hv] at h; cases h)
    have hr : Ed.bare (m : Int) es = (((Ed.bl es m).length : Int), Ed.named (Ed.pl m (Ed.bl es m)) es, 0) := by unfold Ed.bare; rw [if_neg (by rw [hv]; simp), Int.toNat_natCast]
    have hr2 : Ed.bareL (m : Int) es = Ed.bl es m := by unfold Ed.bareL; rw [if_neg (by rw [hv]; simp), Int.toNat_natCast]
    rw [hr, hr2]
    have HVAL := Nu.hid hval
    have hm20 : m ≤ 1048576 := by omega
    clear hv hr hr2 hdg hval hlo hhi
    go_enter Try.func26, Try.ntmps26
    go_wp2_with (go_at_call 48; refine (HDG.out _ HB0.out.low).mono ?_; rintro e w1 ⟨g, rfl, hib, hgg, hb⟩; refine Hid.out ?_)
    refine Nu.hid ?_
    have HB1 := Nu.hid (HB0.out.later hb)
    have HIB := Nu.hid hib
    have hgl := hib.lt
    have hsb := HB1.out.size
    clear hb hib
    go_wp2
    go_loopw [7, 23] (fun v c wr => ∃ (k : Nat) (L : List Int), k ≤ m ∧ c = .int .i64 k ∧ L = Ed.bl es k ∧ OwnZ wr w1.heap.size v L ∧ IntsBlk wr g (Si.degs (m : Int) es) ∧ Bx1 w (m : Int) ao cap es wr ∧ w1.heap.size ≤ wr.heap.size) (fun _ c _ => m - (intOf c).toNat)
    case atStart => exact ⟨0, [], Nat.zero_le _, rfl, rfl, OwnZ.nil _ _, HIB.out, HB1.out, Nat.le_refl _⟩
    case round =>
      obtain ⟨k, L, hk, rfl, hL, hrow, hib, hbx, hw1⟩ := hrel
      have HROW := Nu.hid hrow
      have HIBR := Nu.hid hib
      have HBX := Nu.hid hbx
      have HL := Nu.hid hL
      have hll : L.length ≤ k := by rw [hL]; exact Ed.bl_length es k
      have hsx := hbx.size
      have hgw := hib.lt
      obtain ⟨g0, g1⟩ := hbx.cells
      by_cases hlt : k < m
      · have hlti : (k : Int) < (m : Int) := by omega
        have hk0 : (0 : Int) ≤ (k : Int) := by omega
        obtain ⟨d, hd⟩ : ∃ d, (Si.degs (m : Int) es)[k]? = some d := ⟨_, List.getElem?_eq_getElem (by rw [Si.degs_length]; simpa using hlt)⟩
        have d0 := hib.cell hd
        have hpos := Ed.degs_pos HVAL.out hd
        have HPOS := Nu.hid hpos
        clear hrow hib hbx hL hd hpos
        by_cases hd0 : 0 < d
        · have hh := HPOS.out.1 hd0
          have HLN : Hid (Ed.bl es (k + 1) = L ++ [(k : Int)]) := by rw [Ed.bl_succ, if_pos hh, HL.out]; exact rfl
          clear hh
          go_wp2_with (at_builtin; refine wpList_push rfl _ _ rfl _ w1.heap.size _ L (k : Int) HROW.out hw1 (by omega) rfl rfl ?_; refine Hid.out ?_)
          refine Nu.hid ?_
          intro v' w3 hrow3 _ _ hb3
          have HROW3 := Nu.hid hrow3
          have HIB3 := Nu.hid (HIBR.out.below hb3 hgl)
          have HBX3 := Nu.hid (HBX.out.below hb3 hsb)
          have hw3 : w1.heap.size ≤ w3.heap.size := Nat.le_trans hw1 hb3.size
          clear hrow3 hb3
          go_wp2
          go_roundw
          case rel => exact ⟨k + 1, _, by omega, by go_num, HLN.out.symm, HROW3.out, HIB3.out, HBX3.out, hw3⟩
          case measure => simp [intOf]; omega
        · have hh : ¬ Ed.has es (k : Int) = true := fun h => hd0 (HPOS.out.2 h)
          have HLN : Hid (Ed.bl es (k + 1) = L) := by rw [Ed.bl_succ, if_neg hh, List.append_nil, HL.out]; exact rfl
          clear hh
          go_wp2
          go_roundw
          case rel => exact ⟨k + 1, L, by omega, by go_num, HLN.out.symm, HROW.out, HIBR.out, HBX.out, hw1⟩
          case measure => simp [intOf]; omega
      · have hd : ¬ ((k : Int) < (m : Int)) := by omega
        obtain rfl : k = m := by omega
        obtain ⟨lo, lc, rfl, hli, hlb⟩ := hrow.form
        have HLB := Nu.hid hlb
        have hon : Ed.Once (k : Int) L := by rw [hL]; exact Ed.bl_once es (Nat.le_refl _)
        have HON := Nu.hid hon
        have hpl : Calls Try.prog 45 #[.int .i64 (k : Int), .slice lo L.length lc] wr fun e w' => ∃ g, e = .returned (.tuple #[.slice (some ⟨g, 0, none⟩) k k, .bool true]) ∧ IntsBlk w' g (Ed.pl k L) ∧ wr.heap.size ≤ g ∧ Below wr.heap.size wr w' := (places_any k lo L.length lc L wr rfl hli hm20 (by omega)).mono (by
          rintro e w' ⟨⟨_, g, h1, h2, h3⟩ | ⟨h, _⟩, hb⟩
          · exact ⟨g, h1, h2, h3, hb⟩
          · exact absurd hon h)
        have HPL := Nu.hid hpl
        clear hrow hib hbx hL hpl hli hon hlb
        go_wp2_with (go_at_call 45; refine HPL.out.mono ?_; rintro e w3 ⟨gn, rfl, hin, hgn, hb3⟩; refine Hid.out ?_)
        refine Nu.hid ?_
        have HB3 := Nu.hid (HBX.out.later hb3)
        have HROW3 := Nu.hid (HROW.out.later hb3)
        have hs3 := HB3.out.size
        have hw3 : w1.heap.size ≤ w3.heap.size := Nat.le_trans hw1 hb3.size
        have hrn := rename_any (some ⟨gn, 0, none⟩) k k (Ed.pl k L) ao cap es w3 (HE.out.later HB3.out.low) hfew (Ed.pl_length _ _) hin.at (Ed.val_fits HVAL.out (by rw [Ed.pl_length])) (Ed.pl_inj HON.out) (Si.sorted_nodup (Ed.sorted_of_val HVAL.out)) (fun x hx => by
          obtain ⟨i, hi, e⟩ := List.mem_iff_getElem.1 hx
          rcases Ed.pl_at HON.out (v := i) (x := x) (by rw [← e]; exact List.getElem?_eq_getElem hi) with ⟨h, _⟩ | ⟨j, h, _⟩ <;> omega)
        have HRN := Nu.hid hrn
        have HLW : Hid (∀ x, lo = some x → w1.heap.size ≤ x.block ∧ x.block < w3.heap.size) := fun x hx => by
          have := HLB.out x hx
          have := hb3.size
          omega
        clear hrn hin hgn hb3 g0 g1
        obtain ⟨g0, g1⟩ := HB3.out.cells
        go_wp2_with (go_at_call 46; refine HRN.out.mono ?_; rintro e w4 ⟨v, rfl, hown, hb4⟩; have hown2 : OwnE w4 w.heap.size v (Ed.named (Ed.pl k L) es) := hown.lower (by omega); obtain ⟨va, vc, rfl, -, -, -, hvb⟩ := hown.form; have HVB := Nu.hid hvb; have HB4 := Nu.hid (HB3.out.later hb4); obtain ⟨r0, r1⟩ := HB4.out.rcells; have f0 := HB4.out.free 0; have f1 := HB4.out.free 1; have HOWN := Nu.hid hown2; have HROW4 := Nu.hid (HROW3.out.later hb4); have HFAR := Nu.hid (hown.far (b := w.heap.size + 1) (by omega)); clear hown2 hown hb4 hvb)
        obtain ⟨hb, s0, s1⟩ := HB4.out.store (.int .i64 (L.length : Int)) (.slice va (Ed.named (Ed.pl k L) es).length vc)
        refine bodyPost_ret (v := .tuple #[.agg #[.int .i64 (L.length : Int), .slice va (Ed.named (Ed.pl k L) es).length vc], .slice lo L.length lc, .int .i64 0]) (by simp [results, Try.results26, go_sem, s0, s1]) rfl ?_
        rw [← HL.out]
        refine ⟨_, _, rfl, own_put2 HOWN.out HFAR.out _ _, ownz_put2 (HROW4.out.lower (by omega)) (fun h => ?_) _ _, fun b h1 h2 => ?_, hb⟩
        · cases lo with
          | none => cases h
          | some x =>
            have := HLW.out x rfl
            have e : x.block = w.heap.size + 1 := Option.some.inj h
            omega
        · cases lo with
          | none => cases h2
          | some x =>
            cases va with
            | none => cases h1
            | some y =>
              have := HLW.out x rfl
              have := HVB.out y rfl
              have e : x.block = b := Option.some.inj h2
              have e' : y.block = b := Option.some.inj h1
              omega

end Go.Proofs.Ytdkckdbpbdhoaaa
