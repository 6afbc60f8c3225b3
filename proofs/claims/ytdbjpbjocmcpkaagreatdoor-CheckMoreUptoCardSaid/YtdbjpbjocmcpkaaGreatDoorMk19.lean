import Derived.Test.YtdbjpbjocmcpkaaGreatDoorMk18
namespace Go.Proofs.YtdbjpbjocmcpkaaGreatDoor
section
namespace Pa
open Nu (Tok)
theorem Kh {s:St} {l:List Tok} {x:Int×Int} (h:line s l= .error x):x.1≠0:=by
 unfold line uE header at h
 repeat' split at h
 all_goals (cases h;try (dsimp only;omega))
theorem Ap:∀(ls:List (List Tok)) {s:St} {x:Int×Int},run s ls= .error x->x.1≠0
 |[],s,x,h=>by cases h
 |l::ls,s,x,h=>by
  unfold run at h;cases hx:line s l with
  |error y=>rw[hx] at h;cases h;exact Kh hx
  |ok s1=>rw[hx] at h;exact Ap ls h
theorem Au {g:Nat->Int} {n:Nat} {x:Int×Int} (h:raw g n= .error x):x.1≠0:=by
 unfold raw at h
 split at h
 .cases h;decide
 .cases hx:Nu.scan g n with
  |error y=>
   rw[hx] at h;cases h;have:=Nu.wH hx;dsimp only;omega
  |ok ts=>
   rw[hx] at h;dsimp only at h;unfold Mn at h;cases hr:run s0 (mG [] ts) with
   |error y=>rw[hr] at h;cases h;exact Ap _ hr
   |ok s1=>
    rw[hr] at h;dsimp only at h;unfold fin at h
    split at h
    .cases h;dsimp only;omega
    .split at h
     .cases h;dsimp only;omega
     .cases h
end Pa
end
end Go.Proofs.YtdbjpbjocmcpkaaGreatDoor
