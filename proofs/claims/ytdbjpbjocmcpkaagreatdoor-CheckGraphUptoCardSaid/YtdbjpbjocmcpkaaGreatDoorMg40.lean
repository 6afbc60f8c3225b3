import Derived.Test.YtdbjpbjocmcpkaaGreatDoorMg26
namespace Go.Proofs.YtdbjpbjocmcpkaaGreatDoor
section
namespace Pa
open Nu (Tok)
theorem O1 {s:St} {l:List Tok} {x:Int×Int} (h:line s l= .error x):x.1≠0:=by
 unfold line yU header at h
 repeat' split at h
 all_goals (cases h;try (dsimp only;omega))
theorem Ew:∀(ls:List (List Tok)) {s:St} {x:Int×Int},run s ls= .error x->x.1≠0
 |[],s,x,h=>by cases h
 |l::ls,s,x,h=>by
  unfold run at h;cases hx:line s l with
  |error y=>rw[hx] at h;cases h;exact O1 hx
  |ok s1=>rw[hx] at h;exact Ew ls h
theorem Ez {g:Nat->Int} {n:Nat} {x:Int×Int} (h:raw g n= .error x):x.1≠0:=by
 unfold raw at h
 split at h
 .cases h;decide
 .cases hx:Nu.scan g n with
  |error y=>
   rw[hx] at h;cases h;have:=Nu.AR hx;dsimp only;omega
  |ok ts=>
   rw[hx] at h;dsimp only at h;unfold Rf at h;cases hr:run s0 (pT [] ts) with
   |error y=>rw[hr] at h;cases h;exact Ew _ hr
   |ok s1=>
    rw[hr] at h;dsimp only at h;unfold fin at h
    split at h
    .cases h;dsimp only;omega
    .split at h
     .cases h;dsimp only;omega
     .cases h
end Pa
end
end Go.Proofs.YtdbjpbjocmcpkaaGreatDoor
