import Derived.Test.YtfkmldopfhdbkaaMg05
import Derived.Test.YtfkmldopfhdbkaaMg01
/-
  Isolated.
-/
namespace Go.Proofs.Ytfkmldopfhdbkaa
open Go.RowKit Go.Sort

def Co.iso (m : Nat) (es : List (Int × Int)) : Nat := Co.cntTo (fun v => !Co.met es v) m

def IsoPost (n : Int) (es : List (Int × Int)) (w : World) (e : Ending) (w' : World) : Prop :=
  ((∃ m : Nat, n = (m : Int) ∧ Si.Val n es ∧ e = .returned (.tuple #[.int .i64 (Co.iso m es : Int), .int .i64 0])) ∨ (Si.valid n es = false ∧ e = .returned (.tuple #[.int .i64 0, .int .i64 1]))) ∧ Below w.heap.size w w'

set_option maxRecDepth 100000 in
set_option maxHeartbeats 8000000 in
theorem isolated_any (n : Int) (ao : Option Addr) (cap : Nat) (es : List (Int × Int)) (w : World) (he : EdgesAt w ao es) (hl : es.length ≤ 4611686018427387904) :
    Calls Try.prog 24 #[graphVal n ao es.length cap] w (IsoPost n es w) := by
  have hbw0 : Below w.heap.size w (w.alloc (.cells #[.int .i64 n, .slice ao es.length cap] 24)) := (Below.refl _ _).alloc (Nat.le_refl _) _
  have hdg := degrees_any n ao cap es _ (he.later hbw0) hl
  unfold graphVal at hdg ⊢
  have HBW0 := Nu.hid hbw0
  clear he hbw0
  cases hv : Si.valid n es with
  | false =>
    have HV := Nu.hid hv
    have hdg' := hdg.mono (R' := fun e w' => e = .returned (.tuple #[.slice none 0 0, .int .i64 1]) ∧ Below (w.alloc (.cells #[.int .i64 n, .slice ao es.length cap] 24)).heap.size (w.alloc (.cells #[.int .i64 n, .slice ao es.length cap] 24)) w') (by
      rintro e w' ⟨⟨h, _⟩ | ⟨_, h⟩, hb⟩
      · rw [hv] at h; cases h
      · exact ⟨h, hb⟩)
    have HDG := Nu.hid hdg'
    clear hdg hdg' hv
    go_enter Try.func24, Try.ntmps24
    go_wp2_with (go_at_call 44; refine HDG.out.mono ?_; rintro e w1 ⟨rfl, hb1⟩; refine Hid.out ?_)
    refine Nu.hid ?_
    have HB1 := Nu.hid (HBW0.out.trans (hb1.mono HBW0.out.size))
    clear hb1
    go_wp2
    go_ret2
    exact ⟨.inr ⟨HV.out, rfl⟩, HB1.out⟩
  | true =>
    obtain ⟨m, rfl⟩ : ∃ m : Nat, n = (m : Int) := ⟨n.toNat, by have := (Si.valid_iff.1 hv).lo; omega⟩
    have hval := Si.valid_iff.1 hv
    have hhi := hval.hi
    have HVAL := Nu.hid hval
    have hdg' := hdg.mono (R' := fun e w' => ∃ gd : Nat, e = .returned (.tuple #[.slice (some ⟨gd, 0, none⟩) m m, .int .i64 0]) ∧ IntsBlk w' gd (Si.degs m es) ∧ Below (w.alloc (.cells #[.int .i64 m, .slice ao es.length cap] 24)).heap.size (w.alloc (.cells #[.int .i64 m, .slice ao es.length cap] 24)) w') (by
      rintro e w' ⟨⟨_, g, m', h1, h2, h3, h4⟩ | ⟨h, _⟩, hb⟩
      · obtain rfl : m = m' := by omega
        exact ⟨g, h2, h4, hb⟩
      · rw [hv] at h; cases h)
    have HDG := Nu.hid hdg'
    have hmet : ∀ v, v < m → ∃ x : Int, (Si.degs m es)[v]? = some x ∧ 0 ≤ x ∧ (x = 0 ↔ Co.met es v = false) := fun v hvm => by
      have := Co.degs_met hval es.length (Nat.le_refl _) v hvm
      rw [List.take_length] at this
      exact this
    have HMET := Nu.hid hmet
    clear hdg hdg' hv hval hmet
    go_enter Try.func24, Try.ntmps24
    go_wp2_with (go_at_call 44; refine HDG.out.mono ?_; rintro e w1 ⟨gd, rfl, hib, hb1⟩; refine Hid.out ?_)
    refine Nu.hid ?_
    have HB1 := Nu.hid (HBW0.out.trans (hb1.mono HBW0.out.size))
    have HIB := Nu.hid hib
    clear hb1 hib HDG
    go_wp2
    go_loopw [6, 19] (fun s c wr => ∃ k : Nat, k ≤ m ∧ c = .int .i64 (k : Int) ∧ s = .int .i64 (Co.cntTo (fun v => !Co.met es v) k : Int) ∧ wr = w1) (fun _ c _ => m - (intOf c).toNat)
    case atStart => exact ⟨0, Nat.zero_le _, rfl, rfl, rfl⟩
    case round =>
      obtain ⟨k, hk, rfl, rfl, hwr⟩ := hrel
      obtain rfl := hwr.symm
      have hcl := Co.cntTo_le (fun v => !Co.met es v) k
      by_cases hkn : k < m
      · have hk0 : (0 : Int) ≤ (k : Int) := by omega
        have hk1 : (k : Int) < (m : Int) := by omega
        obtain ⟨x, hx, x0, hxm⟩ := HMET.out k hkn
        have c0 := HIB.out.cell hx
        have hsucc : Co.cntTo (fun v => !Co.met es v) (k + 1) = Co.cntTo (fun v => !Co.met es v) k + (if !Co.met es k then 1 else 0) := rfl
        obtain ⟨z, hz⟩ : ∃ z, Co.cntTo (fun v => !Co.met es v) k = z := ⟨_, rfl⟩
        rw [hz] at hcl hsucc ⊢
        by_cases hx0 : x = 0
        · subst hx0
          rw [hxm.1 rfl] at hsucc
          have HSU := Nu.hid hsucc
          clear hsucc hz hxm hx hwr
          go_wp2
          go_roundw
          case rel => exact ⟨k + 1, by omega, by go_num, by rw [HSU.out]; go_num, by first | rfl | trivial⟩
          case measure => simp [intOf]; omega
        · have hmt : Co.met es k = true := by
            cases h : Co.met es k
            · exact absurd (hxm.2 h) hx0
            · rfl
          rw [hmt] at hsucc
          have HSU := Nu.hid hsucc
          have hd : (x == 0) = false := by simpa using hx0
          clear hsucc hz hxm hx hwr hmt
          go_wp2
          go_roundw
          case rel => exact ⟨k + 1, by omega, by go_num, by rw [HSU.out]; go_num, by first | rfl | trivial⟩
          case measure => simp [intOf]; omega
      · have hd : ¬ ((k : Int) < (m : Int)) := by omega
        obtain rfl : k = m := by omega
        clear hwr
        go_wp2
        go_ret2
        exact ⟨.inl ⟨k, rfl, HVAL.out, rfl⟩, HB1.out⟩

end Go.Proofs.Ytfkmldopfhdbkaa
