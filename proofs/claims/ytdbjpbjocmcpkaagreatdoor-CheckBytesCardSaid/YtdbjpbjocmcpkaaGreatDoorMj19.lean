import Derived.Test.YtdbjpbjocmcpkaaGreatDoorMj18
namespace Go.Proofs.YtdbjpbjocmcpkaaGreatDoor
section
namespace Pa
open Nu (Tok)
theorem xN:∀(ts cur:List Tok) (l:List Tok),l∈nP cur ts->∀t∈l,t∈cur\/t∈ts
 |[],cur,l,h=>by simp[nP] at h
 |u::ts,cur,l,h=>by
  unfold nP at h;intro t ht
  split at h
  .rcases xN ts _ l h t ht with h1|h1
   .rcases abo.1 h1 with h2|h2
    .exact .inl h2
    .rw[abe] at h2
     subst h2;exact .inr adn
   .exact .inr (ab1 _ h1)
  .split at h
   .rcases xN ts [] l h t ht with h1|h1
    .simp at h1
    .exact .inr (ab1 _ h1)
   .rcases aa4.1 h with rfl|h
    .exact .inl ht
    .rcases xN ts [] l h t ht with h1|h1
     .simp at h1
     .exact .inr (ab1 _ h1)
def Pos (l:List Tok):Prop:=∀t∈l,0<=t.num
theorem P5 {l:List Tok} (h:Pos l) (i:Nat):0<=(tk l i).num:=by
 unfold tk;rw[aaL];cases hi:l[i]? with
 |none=>simp
 |some t=>exact h t (aaJ hi)
structure Good (s:St):Prop where
 n0:0<=s.n
 n1:s.n<=1048576
 m0:0<=s.m
 m1:s.m<=2097152
 few:(s.pairs.length:Int)<=s.m
 fk:∀p∈s.pairs,(0<=p.1/\p.1<s.n)/\0<=p.2/\p.2<s.n
theorem Om {s s':St} {l:List Tok} (hs:Good s) (hb:s.begun=false->s.pairs=[]) (hl:Pos l) (h:line s l= .ok s'):Good s'/\s'.begun=true:=by
 have p0:=P5 hl 0;have p1:=P5 hl 1;unfold line at h
 split at h
 .rename_i LX
  unfold yw at h
  split at h
  .cases h
  .split at h
   .cases h
   .split at h
    .cases h
    .split at h
     .cases h
     .cases h
      rename_i h1 _ h3 h4
      refine⟨⟨hs.n0,hs.n1,hs.m0,hs.m1,?_,fun p hp=> ?_⟩,LX⟩
      .have:=hs.few
       dsimp only;rw[aaZ];simp;omega
      .rcases abo.1 hp with hp|hp
       .exact hs.fk p hp
       .rw[abe] at hp
        subst hp;dsimp only;omega
 .rename_i LX
  have hp:=hb (by simpa using LX);unfold header at h
  split at h
  .cases h
  .split at h
   .cases h
   .split at h
    .cases h
    .cases h
     rename_i _ h2 h3
     refine⟨⟨p0,by dsimp only;omega,p1,by dsimp only;omega,by dsimp only;rw[hp];simpa using p1,fun p hp'=> ?_⟩,rfl⟩;dsimp only at hp';rw[hp] at hp';simp at hp'
theorem Gv:∀(ls:List (List Tok)) {s s':St},Good s->(s.begun=false->s.pairs=[])->(∀l∈ls,Pos l)->run s ls= .ok s'->Good s'
 |[],s,s',hs,_,_,h=>by cases h;exact hs
 |l::ls,s,s',hs,hb,hl,h=>by
  unfold run at h;cases hx:line s l with
  |error x=>rw[hx] at h;cases h
  |ok s1=>
   rw[hx] at h;obtain⟨g,b⟩:=Om hs hb (hl l adn) hx;exact Gv ls g (fun hn=>by rw[b] at hn;cases hn) (fun l' h'=>hl l' (ab1 _ h')) h
theorem TX:Good s0:=⟨by simp[s0],by simp[s0],by simp[s0],by simp[s0],by simp[s0],fun p hp=>by simp[s0] at hp⟩
theorem zv {g:Nat->Int} {n:Nat} {s:St} (h:raw g n= .ok s):Good s:=by
 unfold raw at h
 split at h
 .cases h
 .cases hx:Nu.scan g n with
  |error x=>rw[hx] at h;cases h
  |ok ts=>
   rw[hx] at h;dsimp only at h;unfold Ow at h;cases hr:run s0 (nP [] ts) with
   |error x=>rw[hr] at h;cases h
   |ok s1=>
    rw[hr] at h;dsimp only at h;unfold fin at h
    split at h
    .cases h
    .split at h
     .cases h
     .cases h
      refine Gv _ TX (fun _=>rfl) (fun l hl t ht=> ?_) hr;rcases xN ts [] l hl t ht with h1|h1
      .simp at h1
      .exact(Nu.NL hx t h1).2.2.2.2.2.1
theorem RZ {s:St} {l:List Tok} {x:Int×Int} (h:line s l= .error x):x.1≠0:=by
 unfold line yw header at h
 repeat' split at h
 all_goals (cases h;try (dsimp only;omega))
theorem Gw:∀(ls:List (List Tok)) {s:St} {x:Int×Int},run s ls= .error x->x.1≠0
 |[],s,x,h=>by cases h
 |l::ls,s,x,h=>by
  unfold run at h;cases hx:line s l with
  |error y=>rw[hx] at h;cases h;exact RZ hx
  |ok s1=>rw[hx] at h;exact Gw ls h
theorem pF {g:Nat->Int} {n:Nat} {x:Int×Int} (h:raw g n= .error x):x.1≠0:=by
 unfold raw at h
 split at h
 .cases h;decide
 .cases hx:Nu.scan g n with
  |error y=>
   rw[hx] at h;cases h;have:=Nu.vT hx;dsimp only;omega
  |ok ts=>
   rw[hx] at h;dsimp only at h;unfold Ow at h;cases hr:run s0 (nP [] ts) with
   |error y=>rw[hr] at h;cases h;exact Gw _ hr
   |ok s1=>
    rw[hr] at h;dsimp only at h;unfold fin at h
    split at h
    .cases h;dsimp only;omega
    .split at h
     .cases h;dsimp only;omega
     .cases h
end Pa
end
end Go.Proofs.YtdbjpbjocmcpkaaGreatDoor
