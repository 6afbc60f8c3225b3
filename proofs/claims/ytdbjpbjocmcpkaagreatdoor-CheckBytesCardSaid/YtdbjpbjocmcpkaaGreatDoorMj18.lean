import Derived.Test.YtdbjpbjocmcpkaaGreatDoorMj01
namespace Go.Proofs.YtdbjpbjocmcpkaaGreatDoor
section
namespace Pa
open Nu (Tok)
structure St where
 begun:Bool
 n:Int
 m:Int
 pairs:List (Int×Int)
def s0:St:=⟨false,0,0,[]⟩
def tk (l:List Tok) (i:Nat):Tok:=l.getD i ⟨0,0,0,0⟩
def header (s:St) (l:List Tok):Except (Int×Int) St:=
 if l.length≠2 then .error (20,(tk l 0).at')
 else if 1048576<(tk l 0).num then .error (21,(tk l 0).at')
 else if 2097152<(tk l 1).num then .error (22,(tk l 1).at')
 else .ok ⟨true,(tk l 0).num,(tk l 1).num,s.pairs⟩
def yw (s:St) (l:List Tok):Except (Int×Int) St:=
 if (s.pairs.length:Int)=s.m then .error (26,(tk l 0).at')
 else if l.length≠2 then .error (23,(tk l 0).at')
 else if s.n<=(tk l 0).num then .error (24,(tk l 0).at')
 else if s.n<=(tk l 1).num then .error (24,(tk l 1).at')
 else .ok ⟨s.begun,s.n,s.m,s.pairs++[((tk l 0).num,(tk l 1).num)]⟩
def line (s:St) (l:List Tok):Except (Int×Int) St:=if s.begun=true then yw s l else header s l
def fin (s:St) (a:Int):Except (Int×Int) St:=
 if s.begun=false then .error (20,a) else if (s.pairs.length:Int)<s.m then .error (25,a) else .ok s
def nP:List Tok->List Tok->List (List Tok)
 |_,[]=>[]
 |cur,t::ts=>if t.kind=1 then nP (cur++[t]) ts else if cur=[] then nP [] ts else cur::nP [] ts
def run:St->List (List Tok)->Except (Int×Int) St
 |s,[]=> .ok s
 |s,l::ls=>match line s l with
  | .error x=> .error x
  | .ok s'=>run s' ls
def Ow (ls:List (List Tok)) (n:Int):Except (Int×Int) St:=match run s0 ls with
 | .error x=> .error x
 | .ok s=>fin s n
def raw (g:Nat->Int) (n:Nat):Except (Int×Int) St:=
 if 16777216<n then .error (10,16777216)
 else match Nu.scan g n with
  | .error x=> .error (x.2,x.1)
  | .ok ts=>Ow (nP [] ts) n
def go (s:St) (ls:List (List Tok)) (n:Int):Except (Int×Int) St:=match run s ls with
 | .error x=> .error x
 | .ok s=>fin s n
theorem G8 {s:St} {l:List Tok} {ls:List (List Tok)} {n:Int} {x:Int×Int} (h:line s l= .error x):go s (l::ls) n= .error x:=by simp[go,run,h]
theorem go_ok {s s':St} {l:List Tok} {ls:List (List Tok)} {n:Int} (h:line s l= .ok s'):go s (l::ls) n=go s' ls n:=by simp[go,run,h]
theorem Uq {cur ts:List Tok} {t:Tok} (h:t.kind=1):nP cur (t::ts)=nP (cur++[t]) ts:=by simp[nP,h]
theorem vW {ts:List Tok} {t:Tok} (h:t.kind≠1):nP [] (t::ts)=nP [] ts:=by simp[nP,h]
theorem pM {cur ts:List Tok} {t:Tok} (h:t.kind≠1) (hc:cur≠[]):nP cur (t::ts)=cur::nP [] ts:=by simp[nP,h,hc]
theorem KS {g:Nat->Int} {n p p':Nat} {t:Tok} (hp:p<=n) (h:Nu.next g n p= .ok (t,p')) (h3:t.kind=3):t=⟨3,n,n,0⟩:=by
 have hs:=Nu.gM Nu.au g n p hp;by_cases h1:Nu.skip Nu.au g n p=n
 .rw[h1] at hs
  rw[Nu.jB hs] at h;cases h;rfl
 .have hlt:Nu.skip Nu.au g n p<n:=adj hs.hi h1
  cases hd:Nu.isDigit (g (Nu.skip Nu.au g n p))
  .by_cases h10:g (Nu.skip Nu.au g n p)=10
   .rw[Nu.nj hs hlt h10] at h
    cases h;simp at h3
   .rw[Nu.nk hs hlt hd h10] at h
    cases h
  .have hr:=Nu.gM Nu.isDigit g n (Nu.skip Nu.au g n p) hs.hi
   by_cases hb:9<Nu.skip Nu.isDigit g n (Nu.skip Nu.au g n p)-Nu.skip Nu.au g n p\/(1<Nu.skip Nu.isDigit g n (Nu.skip Nu.au g n p)-Nu.skip Nu.au g n p/\g (Nu.skip Nu.au g n p)=48)
   .rw[Nu.mM hs hlt hd hr hb] at h
    cases h
   .rw[Nu.mL hs hlt hd hr hb] at h
    cases h;simp at h3
theorem xg {g:Nat->Int} {n:Nat}:∀{k p:Nat} {ts:List Tok},p<=n->n-p<k->Nu.dJ g n k p= .ok ts->∃us,ts=us++[⟨3,n,n,0⟩]/\∀t∈us,t.kind=1\/t.kind=2
 |0,p,ts,_,hk,_=>by omega
 |k+1,p,ts,hp,hk,h=>by
  cases hx:Nu.next g n p with
  |error x=>rw[Nu.iG k hx] at h;cases h
  |ok y=>
   obtain⟨u,p'⟩:=y;have hm:=Nu.kY hp hx;have hf:=Nu.vV hp hx;by_cases h3:u.kind=3
   .rw[Nu.fN k hx h3] at h
    cases h;exact⟨[],by rw[KS hp hx h3];rfl,fun t ht=>by cases ht⟩
   .rw[Nu.jw k hx h3] at h
    have hlt:=hm.2 h3;cases hr:Nu.dJ g n k p' with
    |error x=>rw[hr] at h;cases h
    |ok us=>
     rw[hr] at h;cases h;obtain⟨vs,rfl,hv⟩:=xg hm.1 (by omega) hr;refine⟨u::vs,rfl,fun t ht=> ?_⟩;rcases aa4.1 ht with rfl|ht
     .have:=hf.1;omega
     .exact hv t ht
theorem Ki {g:Nat->Int} {n:Nat} {ts:List Tok} (h:Nu.scan g n= .ok ts):∃us,ts=us++[⟨3,n,n,0⟩]/\∀t∈us,t.kind=1\/t.kind=2:=
 xg (aaR _) (by omega) h
end Pa
end
end Go.Proofs.YtdbjpbjocmcpkaaGreatDoor
