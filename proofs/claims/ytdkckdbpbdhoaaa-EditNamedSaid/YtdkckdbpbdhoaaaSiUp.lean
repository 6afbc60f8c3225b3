/-
  Edges gone through one after another: the first, the last.
-/
import Derived.Test.YtdkckdbpbdhoaaaSiValid
namespace Go.Proofs.Ytdkckdbpbdhoaaa
open Go.RowKit Go.Sort

theorem Si.UpTo.first {n : Int} {es : List (Int × Int)} {l p : Int × Int} (h : Si.UpTo n es 0 l) (ho : Si.ok n p) : Si.lt l p := by
  rcases h.2.2 with ⟨_, rfl⟩ | ⟨k', hk, _⟩
  · unfold Si.ok at ho
    unfold Si.lt
    dsimp only
    omega
  · omega

theorem Si.UpTo.last {n : Int} {es : List (Int × Int)} {k : Nat} {l : Int × Int} (h : Si.UpTo n es (k + 1) l) : es[k]? = some l := by
  rcases h.2.2 with ⟨h0, _⟩ | ⟨k', hk, hl⟩
  · omega
  · obtain rfl : k = k' := by omega
    exact hl

end Go.Proofs.Ytdkckdbpbdhoaaa
