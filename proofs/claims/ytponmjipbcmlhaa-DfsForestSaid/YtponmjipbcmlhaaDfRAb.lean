/-
  The document's Above.
-/
import Derived.Test.YtponmjipbcmlhaaDfRH
namespace Go.Proofs.Ytponmjipbcmlhaa
open Go.RowKit

section
variable {w W V : World} {n : Nat} {ao : Option Addr} {ca : Nat} {es : List (Int × Int)} {f : For} {s : Df.St}

/-- A parent is none, or a half-edge. -/
theorem Df.Hang1.par {v : Nat} (h : Df.Hang1 es s v) : Df.at_ s.par v = -1 ∨ ∃ h : Nat, h < 2 * es.length ∧ Df.at_ s.par v = (h : Int) := by
  rcases h with ⟨h, _⟩ | ⟨x, h1, h2, _⟩
  · exact .inl h
  · exact .inr ⟨x, h1, h2⟩

/-- How far it is up. -/
def hme (s : Df.St) (x : Int) : Nat := if x < 0 then 0 else (Df.at_ s.hei x.toNat).toNat + 1
theorem hme_no (s : Df.St) : hme s (-1) = 0 := rfl
theorem hme_at (s : Df.St) (z : Nat) : hme s z = (Df.at_ s.hei z).toNat + 1 := by
  unfold hme
  rw [if_neg (by omega), Int.toNat_natCast]

set_option maxRecDepth 100000 in
set_option maxHeartbeats 16000000 in
theorem rabv_any (u v : Nat) (he : EdgesAt w ao es) (hv : Si.Val n es) (hF : LstF w f s) (hL : Df.Lens n es s) (hh : Df.Hang n es s) (hr : Df.Rooted n s) (hvn : v < n) {Y : List Int} (hway : Df.IsWay es s ((v : Int) :: Y)) :
    Calls Try.prog 21 #[.agg #[.int .i64 (n : Int), .slice ao es.length ca], f.val s, .int .i64 (u : Int), .int .i64 (v : Int)] w (BoolPost (Df.Anc es s u v) w) := by
  obtain ⟨l1, l2, l3, l4⟩ := hL
  have hn1 := hF.n1
  have hnn := hv.hi
  obtain ⟨W, hW⟩ : ∃ W, W = bxw w n ao ca es f s := ⟨_, rfl⟩
  have hbx : BxAt w W n ao ca es f s := by rw [hW]; exact BxAt.new
  have HBX := Nu.hid hbx
  have HUP : Hid (∀ V (z : Nat), BxAt w V n ao ca es f s → z < n → Calls Try.prog 36 #[.agg #[.int .i64 (n : Int), .slice ao es.length ca], .agg #[.slice f.a1 s.par.length f.c1, .slice f.a2 s.hei.length f.c2, .slice f.a3 s.ord.length f.c3, .slice f.a4 s.ori.length f.c4], .int .i64 (z : Int)] V fun e w' => e = .returned (.int .i64 (Df.up es s z)) ∧ Below V.heap.size V w') := fun V z hV hz => rup_any n ao ca es f s z V (he.later hV.bel) hv (hF.later hV.bel) l1 hz (hh z hz).par
  have HUC : Hid (∀ z : Nat, z < n → (Df.up es s z = -1) ∨ ∃ y : Nat, y < n ∧ Df.up es s z = (y : Int) ∧ Df.at_ s.hei z = Df.at_ s.hei y + 1) := fun z hz => by
    rcases (hh z hz).cases hv with ⟨_, h, _⟩ | ⟨y, h1, h2, _, h4⟩
    · exact .inl h
    · refine .inr ⟨y, h1, h2, ?_⟩
      have h5 := (hr y h1).1
      have h6 := (hr y h1).2.1
      rw [h4, IntKind.wrap_i64]
      omega
  have HRD := Nu.hid hr
  obtain ⟨a1, a2, a3, a4, c1, c2, c3, c4⟩ := f
  unfold For.val
  unfold bxw at hW
  dsimp only at hW HUP ⊢
  rw [l1, l2, l3, l4] at hW HUP ⊢
  have HW := Nu.hid hW
  clear hF hW hbx he hv hh hr
  go_enter Try.func21, Try.ntmps21
  go_wp2_with fail
  rw [← HW.out]
  have HWAY := Nu.hid hway
  clear hway
  go_loopw [3] (fun c wr => ∃ k : Int, c = .int .i64 k ∧ (k = -1 ∨ ∃ z : Nat, k = (z : Int) ∧ z < n) ∧ Hid (∃ X Z, (v : Int) :: Y = X ++ Z ∧ (u : Int) ∉ X ∧ k = Z.headD (-1)) ∧ BxAt w wr n ao ca es ⟨a1, a2, a3, a4, c1, c2, c3, c4⟩ s) (fun c _ => hme s (intOf c))
  case atStart => exact ⟨v, rfl, .inr ⟨v, rfl, hvn⟩, ⟨[], (v : Int) :: Y, rfl, by simp, rfl⟩, HBX.out⟩
  case round =>
    obtain ⟨k, rfl, hkc, HK, hb⟩ := hrel
    have HB := Nu.hid hb
    have x0 := hb.x0
    have x1 := hb.x1
    have k0 := hb.k0
    have k1 := hb.k1
    have k2 := hb.k2
    have k3 := hb.k3
    dsimp only at k0 k1 k2 k3
    rw [l1] at k0
    rw [l2] at k1
    rw [l3] at k2
    rw [l4] at k3
    rcases hkc with rfl | ⟨z, rfl, hz⟩
    · clear hb
      go_wp2
      go_ret
      refine ⟨false, rfl, ⟨fun h => (by cases h), fun h => ?_⟩, HB.out.bel⟩
      obtain ⟨X, Z, h1, h2, h3⟩ := HK.out
      rw [Df.Anc.iff HWAY.out, h1] at h
      cases Z with
      | nil => rw [List.append_nil] at h; exact absurd h h2
      | cons z Z =>
        have h4 := HWAY.out
        rw [h1] at h4
        have := h4.tail.1
        simp at h3
        omega
    · have z0 : (0 : Int) ≤ (z : Int) := by omega
      have HZ : Hid (∃ X Z, (v : Int) :: Y = X ++ (z : Int) :: Z ∧ (u : Int) ∉ X ∧ Df.up es s z = Z.headD (-1)) := by
        obtain ⟨X, Z, h1, h2, h3⟩ := HK.out
        cases Z with
        | nil => exact absurd h3 (by simp)
        | cons y Z =>
          simp at h3
          subst h3
          have h4 := HWAY.out
          rw [h1] at h4
          exact ⟨X, Z, h1, h2, h4.tail.2.1⟩
      by_cases huz : u = z
      · subst huz
        clear hb
        go_wp2
        go_ret
        refine ⟨true, rfl, ⟨fun _ => ?_, fun _ => rfl⟩, HB.out.bel⟩
        obtain ⟨X, Z, h1, _⟩ := HZ.out
        rw [Df.Anc.iff HWAY.out, h1]
        simp
      · have t1 : ((u : Int) == (z : Int)) = false := by simp; omega
        have HUZ := Nu.hid huz
        have HCU := Nu.hid (HUP.out wr z hb hz)
        have HUCZ := Nu.hid (HUC.out z hz)
        have hrz := HRD.out z hz
        have HRZ := Nu.hid hrz
        have HBL := Nu.hid (fun V => hb.later (V := V))
        clear hb huz hrz
        go_wp2_with (go_at_call 36; refine HCU.out.mono ?_; rintro e w1 ⟨rfl, hb1⟩; have HB1 := Nu.hid hb1; clear hb1)
        go_roundw
        case rel =>
          refine ⟨_, rfl, ?_, ?_, HBL.out _ HB1.out⟩
          · rcases HUCZ.out with h | ⟨y, h1, h2, _⟩
            · exact .inl h
            · exact .inr ⟨y, h2, h1⟩
          · obtain ⟨X, Z, h1, h2, h3⟩ := HZ.out
            refine ⟨X ++ [(z : Int)], Z, by rw [h1]; simp, ?_, h3⟩
            intro hm
            rcases List.mem_append.1 hm with hm | hm
            · exact h2 hm
            · rw [List.mem_singleton] at hm
              have := HUZ.out
              omega
        case measure =>
          have h0 := HRZ.out.1
          simp only [intOf]
          rw [hme_at]
          rcases HUCZ.out with h | ⟨y, h1, h2, h3⟩
          · rw [h, hme_no]
            omega
          · have h4 := (HRD.out y h1).1
            rw [h2, hme_at, h3]
            omega
end

end Go.Proofs.Ytponmjipbcmlhaa
