import Derived.Test.YtdbjpbjocmcpkaaGreatDoorMj00
import Derived.Test.YtdbjpbjocmcpkaaGreatDoorRows
import Derived.Test.YtdbjpbjocmcpkaaGreatDoorChecked
import Derived.JoinedCond
set_option maxRecDepth 100000
namespace Go.Proofs.YtdbjpbjocmcpkaaGreatDoor
section
open Go
namespace aaz
theorem inPlace:(Rows.checkBytesRow.inPlace==Tryz.pinned.checked.prog.inPlace 4)=true:=by kernel_rfl
theorem unfollowed:(Rows.checkBytesRow.unfollowed==Tryz.pinned.checked.prog.unfollowed 4)=true:=by kernel_rfl
theorem recurses:(Rows.checkBytesRow.recurses==Tryz.pinned.checked.prog.recurses 4)=true:=by kernel_rfl
theorem named:(Rows.checkBytesRow.named==Tryz.pinned.checked.prog.varsNamed 4)=true:=by kernel_rfl
theorem closed:joinedFacts Tryz.pinned.checked.prog 4 Tryz.f4 (OpenSpec.ofChange Rows.checkBytesSpec).bare Rows.checkBytesRow=true:=by
 unfold joinedFacts;rw[inPlace,unfollowed,recurses,named]
 kernel_rfl
end aaz
end
end Go.Proofs.YtdbjpbjocmcpkaaGreatDoor
