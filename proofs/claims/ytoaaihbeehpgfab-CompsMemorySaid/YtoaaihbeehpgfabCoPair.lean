/-
  Pairs that came in.
-/
import Derived.Test.YtoaaihbeehpgfabSiGin
import Derived.Test.YtoaaihbeehpgfabKinInts
namespace Go.Proofs.Ytoaaihbeehpgfab
open Go.ChangeShapes Go.WideShapes Go.ChangeAt Go.RowKit

theorem cellsPair : Try.prog.cellsOf 34 = 2 := by kernel_rfl
theorem bytesPair : Try.prog.bytesOf 34 = 16 := by kernel_rfl

theorem two_prs {H : Type} {enc : TypeId × Value → H} {W : World} {base : Nat} {sp : Nat → Bool} {held : Bool} {fuel : Nat} {cs : List Value} {x : DataW H × List MemPlace} (h : DataW.trod enc Try.prog W base sp held fuel 34 cs = some x) : TwoInts cs := two_struct Try.underlying34 cellsPair rfl rfl rfl rfl h

/-- A list of pairs that came in. -/
theorem prs_of_trod {H : Type} {enc : TypeId × Value → H} {W : World} {a : Option Addr} {len cap : Nat} {d : DataW H} {p : List MemPlace} {ts : List TypeId} {ds : List (DataW H)} {j : Nat}
    (h : DataW.Trod enc Try.prog W 0 (fun _ => true) true 25 (.slice a len cap) d p) (hsz : (DataW.weightsEach Try.prog ts ds).all (· ≤ reachBytes) = true) (hts : ts[j]? = some 25) (hds : ds[j]? = some d) :
    ∃ qs : List (Int × Int), PairsIn W a len cap qs ∧ qs.length * 16 ≤ 140737488351232 := by
  obtain ⟨fuel, hf⟩ := h
  obtain ⟨qs, hq, hx⟩ := pairs_in Try.underlying25 cellsPair (fun n cs y hy => two_prs hy) hf
  refine ⟨qs, hq, ?_⟩
  rcases hx with ⟨_, rfl⟩ | ⟨es, rest, hd, hle⟩
  · simp
  · dsimp only at hd
    subst hd
    have hw := sized_slice hsz hts hds Try.underlying25
    rw [bytesPair] at hw
    simp only [reachBytes] at hw
    rw [hq.hlen]
    omega

end Go.Proofs.Ytoaaihbeehpgfab
