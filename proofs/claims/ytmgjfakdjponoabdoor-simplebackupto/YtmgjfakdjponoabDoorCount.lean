/-
  What count answers: how many tokens the text has, or it gives up with the first fault.
-/
import Derived.Test.YtmgjfakdjponoabDoorNext
import Derived.Test.YtmgjfakdjponoabDoorPlain2
namespace Go.Proofs.YtmgjfakdjponoabDoor
open Go.RowKit

def CountPost (n : Nat) (g : Nat → Int) (w : World) (e : Ending) (w' : World) : Prop :=
  w.grownBy w' none ∧ ((∃ ts, Nu.scan g n = .ok ts ∧ e = .returned (.int .i64 ts.length)) ∨ (∃ x, Nu.scan g n = .error x ∧ e = .panicked [{ v := faultV x, recovered := false }]))

/-- Writes to a block that was not there are no writes to what was. -/
theorem grownBy_new {w w1 w2 : World} {b : Nat} (h : w.grownBy w1 none) (hb : w.heap.size ≤ b) (k : w1.grownBy w2 (some b)) : w.grownBy w2 none :=
  ⟨k.os.trans h.os, k.tape.trans h.tape, k.output.trans h.output, Nat.le_trans h.size k.size, fun i hi _ => (k.block i (Nat.lt_of_lt_of_le hi h.size) (by simp; omega)).trans (h.block i hi (by simp))⟩

theorem HasText.apart {w : World} {ao : Option Addr} {n : Nat} {g : Nat → Int} (h : HasText w ao n g) (hn : 0 < n) : Apart ao w.heap.size := by
  intro x hx
  obtain ⟨_, tb, to, e, hc⟩ := h 0 hn
  rw [hx] at e
  cases e
  have := block_lt_of_cell hc
  simp at this ⊢
  omega

set_option maxHeartbeats 2000000 in
theorem count_any (ao : Option Addr) (n cap : Nat) (g : Nat → Int) (w : World) (ht : HasText w ao n g) (ha : Apart ao w.heap.size) (hn : n ≤ 33554432) (hcap : n ≤ cap) :
    Calls Tryd.prog 61 #[.slice ao n cap] w (CountPost n g w) := by
  have hft := field_tok
  go_enter Tryd.func61, Tryd.ntmps61
  go_wp2
  go_loopw [4] (fun c wr => ∃ (ts : List Nu.Tok) (p k : Nat), p ≤ n ∧ n - p < k ∧ ts.length ≤ p ∧ Nu.scan g n = Nu.pre ts (Nu.scanF g n k p) ∧ c = .int .i64 (ts.length + 1 : Nat) ∧ Scn wr w.heap.size ao n cap p ∧ w.grownBy wr none) (fun _ wr => n - posOf wr w.heap.size)
  case atStart =>
    refine ⟨[], 0, n + 1, Nat.zero_le _, by omega, Nat.le_refl _, (Nu.pre_nil _).symm, rfl, ?_, World.grownBy_alloc _ _ _⟩
    exact heap_alloc_new w _
  case round =>
    obtain ⟨ts, p, k, hp, hk, hl, hscan, rfl, hs, hg⟩ := hrel
    obtain ⟨k, rfl⟩ : ∃ k', k = k' + 1 := ⟨k - 1, by omega⟩
    have HSC := Nu.hid hscan
    have HT := Nu.hid ht
    have HPOS := Nu.hid hs.pos
    clear hscan ht
    go_wp2_with (go_at_call 74; refine (next_any w.heap.size ao n cap p g _ hs (HT.out.grown0 hg) ha hp hn hcap).mono ?_; refine Hid.out ?_)
    refine Nu.hid ?_
    rintro e w1 ⟨hg1, hx⟩
    have HG := Nu.hid (grownBy_new hg (Nat.le_refl _) hg1)
    rcases hx with ⟨t, p', hnx, rfl, hs1⟩ | ⟨x, hnx, rfl⟩
    · have hm := Nu.next_moves hp hnx
      have hf := Nu.next_fits hp hnx
      have HS1 := Nu.hid hs1
      have HNX := Nu.hid hnx
      clear hnx hs1 hg hg1 hs
      unfold tokV
      by_cases h3 : t.kind = 3
      · have j3 : (t.kind != 3) = false := by simp [h3]
        have H3 := Nu.hid h3
        clear h3
        go_wp2
        go_ret
        refine ⟨HG.out, .inl ⟨ts ++ [t], ?_, by simp⟩⟩
        rw [HSC.out, Nu.scanF_last k HNX.out H3.out]
        rfl
      · have j3 : (t.kind != 3) = true := by simp [h3]
        have hp' := hm.2 h3
        have H3 := Nu.hid h3
        clear h3
        go_wp2
        go_roundw
        case rel =>
          refine ⟨ts ++ [t], p', k, hm.1, by omega, by simp; omega, ?_, by simp, HS1.out, HG.out⟩
          rw [HSC.out, Nu.scanF_more k HNX.out H3.out, Nu.pre_pre]
        case measure =>
          have e1 := HS1.out.pos
          have e2 : posOf wr w.heap.size = p := HPOS.out
          rw [e1, e2]
          omega
    · refine ⟨rfl, HG.out, .inr ⟨x, ?_, rfl⟩⟩
      rw [HSC.out, Nu.scanF_fault k hnx]
      rfl

end Go.Proofs.YtmgjfakdjponoabDoor
