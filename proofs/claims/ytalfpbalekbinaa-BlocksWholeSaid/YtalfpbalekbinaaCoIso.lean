/-
  Isolated.
-/
import Derived.Test.YtalfpbalekbinaaMg25
import Derived.Test.YtalfpbalekbinaaMg05
namespace Go.Proofs.Ytalfpbalekbinaa
open Go.RowKit Go.Sort

/-- Is v an end of an edge? -/
def Co.met (es : List (Int × Int)) (v : Nat) : Bool := es.any fun e => e.1 == (v : Int) || e.2 == (v : Int)

theorem Co.met_snoc (es : List (Int × Int)) (p : Int × Int) (v : Nat) : Co.met (es ++ [p]) v = (Co.met es v || (p.1 == (v : Int) || p.2 == (v : Int))) := by simp [Co.met]

theorem Co.degs_met {m : Nat} {es : List (Int × Int)} (hv : Si.Val m es) : ∀ k, k ≤ es.length → ∀ v, v < m → ∃ x : Int, (Si.degs m (es.take k))[v]? = some x ∧ 0 ≤ x ∧ (x = 0 ↔ Co.met (es.take k) v = false) := by
  intro k
  induction k with
  | zero => intro _ v hvm; exact ⟨0, by simp [Si.degs, hvm], Int.le_refl _, by simp [Co.met]⟩
  | succ k ih =>
    intro hk v hvm
    obtain ⟨q, hq⟩ : ∃ q, es[k]? = some q := ⟨_, List.getElem?_eq_getElem (by omega)⟩
    have hok := hv.each k q hq
    unfold Si.ok at hok
    obtain ⟨qu, qv⟩ := q
    dsimp only at hok
    obtain ⟨a, rfl⟩ : ∃ u : Nat, qu = (u : Int) := ⟨qu.toNat, by omega⟩
    obtain ⟨b, rfl⟩ : ∃ v : Nat, qv = (v : Int) := ⟨qv.toNat, by omega⟩
    obtain ⟨x, h1, x0, hx⟩ := ih (by omega) v hvm
    obtain ⟨xa, ha1, xa0, -⟩ := ih (by omega) a (by omega)
    obtain ⟨xb, hb1, xb0, -⟩ := ih (by omega) b (by omega)
    rw [Si.take_snoc hq, Si.degs_snoc, Co.met_snoc]
    have hne : a ≠ b := by omega
    rw [Si.bump_at ha1, Si.bump_at (x := xb) (by rw [List.getElem?_set, if_neg hne]; exact hb1)]
    have hl := Si.degs_length m (es.take k)
    rw [List.getElem?_set]
    by_cases hb : b = v
    · subst hb
      rw [if_pos rfl, if_pos (by simp; omega)]
      refine ⟨_, rfl, by omega, ?_⟩
      have : ¬ (xb + 1 = 0) := by omega
      simp [this]
    · rw [if_neg hb, List.getElem?_set]
      by_cases ha : a = v
      · subst ha
        rw [if_pos rfl, if_pos (by omega)]
        refine ⟨_, rfl, by omega, ?_⟩
        have : ¬ (xa + 1 = 0) := by omega
        simp [this]
      · rw [if_neg ha]
        refine ⟨x, h1, x0, ?_⟩
        rw [hx]
        have e1 : ((a : Int) == (v : Int)) = false := by simp; omega
        have e2 : ((b : Int) == (v : Int)) = false := by simp; omega
        dsimp only
        rw [e1, e2]
        simp

def Co.iso (m : Nat) (es : List (Int × Int)) : Nat := Co.cntTo (fun v => !Co.met es v) m

def IsoPost (n : Int) (es : List (Int × Int)) (w : World) (e : Ending) (w' : World) : Prop :=
  ((∃ m : Nat, n = (m : Int) ∧ Si.Val n es ∧ e = .returned (.tuple #[.int .i64 (Co.iso m es : Int), .int .i64 0])) ∨ (Si.valid n es = false ∧ e = .returned (.tuple #[.int .i64 0, .int .i64 1]))) ∧ Below w.heap.size w w'

set_option maxRecDepth 100000 in
set_option maxHeartbeats 8000000 in
theorem isolated_any (n : Int) (ao : Option Addr) (cap : Nat) (es : List (Int × Int)) (w : World) (he : EdgesAt w ao es) (hl : es.length ≤ 4611686018427387904) :
    Calls Try.prog 23 #[graphVal n ao es.length cap] w (IsoPost n es w) := by
  have hbw0 : Below w.heap.size w (w.alloc (.cells #[.int .i64 n, .slice ao es.length cap] 24)) := (Below.refl _ _).alloc (Nat.le_refl _) _
  have hdg := degrees_any n ao cap es _ (he.later hbw0) hl
  unfold graphVal at hdg ⊢
  have HBW0 := Nu.hid hbw0
  clear he hbw0
  cases hv : Si.valid n es with
  | false =>
    have HV := Nu.hid hv
    have hdg' := hdg.mono (R' := fun e w' => e = .returned (.tuple #[.slice none 0 0, .int .i64 1]) ∧ Below (w.alloc (.cells #[.int .i64 n, .slice ao es.length cap] 24)).heap.size (w.alloc (.cells #[.int .i64 n, .slice ao es.length cap] 24)) w') (by
      rintro e w' ⟨⟨h, _⟩ | ⟨_, h⟩, hb⟩
      · rw [hv] at h; cases h
      · exact ⟨h, hb⟩)
    have HDG := Nu.hid hdg'
    clear hdg hdg' hv
    go_enter Try.func23, Try.ntmps23
    go_wp2_with (go_at_call 42; refine HDG.out.mono ?_; rintro e w1 ⟨rfl, hb1⟩; refine Hid.out ?_)
    refine Nu.hid ?_
    have HB1 := Nu.hid (HBW0.out.trans (hb1.mono HBW0.out.size))
    clear hb1
    go_wp2
    go_ret2
    exact ⟨.inr ⟨HV.out, rfl⟩, HB1.out⟩
  | true =>
    obtain ⟨m, rfl⟩ : ∃ m : Nat, n = (m : Int) := ⟨n.toNat, by have := (Si.valid_iff.1 hv).lo; omega⟩
    have hval := Si.valid_iff.1 hv
    have hhi := hval.hi
    have HVAL := Nu.hid hval
    have hdg' := hdg.mono (R' := fun e w' => ∃ gd : Nat, e = .returned (.tuple #[.slice (some ⟨gd, 0, none⟩) m m, .int .i64 0]) ∧ IntsBlk w' gd (Si.degs m es) ∧ Below (w.alloc (.cells #[.int .i64 m, .slice ao es.length cap] 24)).heap.size (w.alloc (.cells #[.int .i64 m, .slice ao es.length cap] 24)) w') (by
      rintro e w' ⟨⟨_, g, m', h1, h2, h3, h4⟩ | ⟨h, _⟩, hb⟩
      · obtain rfl : m = m' := by omega
        exact ⟨g, h2, h4, hb⟩
      · rw [hv] at h; cases h)
    have HDG := Nu.hid hdg'
    have hmet : ∀ v, v < m → ∃ x : Int, (Si.degs m es)[v]? = some x ∧ 0 ≤ x ∧ (x = 0 ↔ Co.met es v = false) := fun v hvm => by
      have := Co.degs_met hval es.length (Nat.le_refl _) v hvm
      rw [List.take_length] at this
      exact this
    have HMET := Nu.hid hmet
    clear hdg hdg' hv hval hmet
    go_enter Try.func23, Try.ntmps23
    go_wp2_with (go_at_call 42; refine HDG.out.mono ?_; rintro e w1 ⟨gd, rfl, hib, hb1⟩; refine Hid.out ?_)
    refine Nu.hid ?_
    have HB1 := Nu.hid (HBW0.out.trans (hb1.mono HBW0.out.size))
    have HIB := Nu.hid hib
    clear hb1 hib HDG
    go_wp2
    go_loopw [6, 19] (fun s c wr => ∃ k : Nat, k ≤ m ∧ c = .int .i64 (k : Int) ∧ s = .int .i64 (Co.cntTo (fun v => !Co.met es v) k : Int) ∧ wr = w1) (fun _ c _ => m - (intOf c).toNat)
    case atStart => exact ⟨0, Nat.zero_le _, rfl, rfl, rfl⟩
    case round =>
      obtain ⟨k, hk, rfl, rfl, hwr⟩ := hrel
      obtain rfl := hwr.symm
      have hcl := Co.cntTo_le (fun v => !Co.met es v) k
      by_cases hkn : k < m
      · have hk0 : (0 : Int) ≤ (k : Int) := by omega
        have hk1 : (k : Int) < (m : Int) := by omega
        obtain ⟨x, hx, x0, hxm⟩ := HMET.out k hkn
        have c0 := HIB.out.cell hx
        have hsucc : Co.cntTo (fun v => !Co.met es v) (k + 1) = Co.cntTo (fun v => !Co.met es v) k + (if !Co.met es k then 1 else 0) := rfl
        obtain ⟨z, hz⟩ : ∃ z, Co.cntTo (fun v => !Co.met es v) k = z := ⟨_, rfl⟩
        rw [hz] at hcl hsucc ⊢
        by_cases hx0 : x = 0
        · subst hx0
          rw [hxm.1 rfl] at hsucc
          have HSU := Nu.hid hsucc
          clear hsucc hz hxm hx hwr
          go_wp2
          go_roundw
          case rel => exact ⟨k + 1, by omega, by go_num, by rw [HSU.out]; go_num, by first | rfl | trivial⟩
          case measure => simp [intOf]; omega
        · have hmt : Co.met es k = true := by
            cases h : Co.met es k
            · exact absurd (hxm.2 h) hx0
            · rfl
          rw [hmt] at hsucc
          have HSU := Nu.hid hsucc
          have hd : (x == 0) = false := by simpa using hx0
          clear hsucc hz hxm hx hwr hmt
          go_wp2
          go_roundw
          case rel => exact ⟨k + 1, by omega, by go_num, by rw [HSU.out]; go_num, by first | rfl | trivial⟩
          case measure => simp [intOf]; omega
      · have hd : ¬ ((k : Int) < (m : Int)) := by omega
        obtain rfl : k = m := by omega
        clear hwr
        go_wp2
        go_ret2
        exact ⟨.inl ⟨k, rfl, HVAL.out, rfl⟩, HB1.out⟩

end Go.Proofs.Ytalfpbalekbinaa
