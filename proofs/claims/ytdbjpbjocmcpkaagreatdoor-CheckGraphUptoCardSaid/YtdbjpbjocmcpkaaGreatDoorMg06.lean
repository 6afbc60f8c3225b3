import Derived.Test.YtdbjpbjocmcpkaaGreatDoorMg00
import Derived.Test.YtdbjpbjocmcpkaaGreatDoorRows
import Derived.Test.YtdbjpbjocmcpkaaGreatDoorChecked
import Derived.JoinedCond
set_option maxRecDepth 100000
namespace Go.Proofs.YtdbjpbjocmcpkaaGreatDoor
section
open Go
namespace WY
theorem inPlace:(Rows.checkGraphUptoRow.inPlace==Tryz.pinned.checked.prog.inPlace 3)=true:=by kernel_rfl
theorem unfollowed:(Rows.checkGraphUptoRow.unfollowed==Tryz.pinned.checked.prog.unfollowed 3)=true:=by kernel_rfl
theorem recurses:(Rows.checkGraphUptoRow.recurses==Tryz.pinned.checked.prog.recurses 3)=true:=by kernel_rfl
theorem named:(Rows.checkGraphUptoRow.named==Tryz.pinned.checked.prog.varsNamed 3)=true:=by kernel_rfl
theorem closed:joinedFacts Tryz.pinned.checked.prog 3 Tryz.f3 (Rows.OpenSpec.upto Rows.checkGraphSpec).bare Rows.checkGraphUptoRow=true:=by
 unfold joinedFacts;rw[inPlace,unfollowed,recurses,named]
 kernel_rfl
end WY
end
end Go.Proofs.YtdbjpbjocmcpkaaGreatDoor
