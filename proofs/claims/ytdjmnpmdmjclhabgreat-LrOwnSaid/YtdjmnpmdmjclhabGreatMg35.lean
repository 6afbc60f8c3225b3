import Derived.Test.YtdjmnpmdmjclhabGreatMg34
import Derived.Test.YtdjmnpmdmjclhabGreatMg12
import Derived.Test.YtdjmnpmdmjclhabGreatMg16
import Derived.Test.YtdjmnpmdmjclhabGreatMg33
namespace Go.Proofs.YtdjmnpmdmjclhabGreat
section
open Go.RowKit Lt Pl
namespace Lt
section
variable {n m:Nat} {T:DF n m} {E:Env} {oe:Nat→List Nat} {hf:Nat→Int}
theorem DD (hE:dM T E oe hf) {N:Nat} (hN:2*m+1≤N) {v:Nat} {l:List Int} {st:TS} {fin:Nat→Prop} {G:List Nat} {r:Option TS} (h:Inv T E oe st fin G []) (hv:v<n) (hnd:((v:Int)::l).Nodup) (hro:∀u:Nat,Root T u→(u:Int)∈(v:Int)::l→¬fin u) (ht:trees E N ((v:Int)::l) st=some r):
 (∃x:Int,x≠-1∧bz E.par (v:Int)=some x∧trees E N l st=some r)∨(bz E.par (v:Int)=some (-1)∧Inv T E oe (enter st v) fin G [⟨v,0,[]⟩]∧((run E N (enter st v)=some none∧r=none)∨∃fC rB G1,run E N (enter st v)=some (some fC)∧Inv T E oe fC rB G1 []∧trees E N l fC=some r∧∀u:Nat,Root T u→(u:Int)∈l→¬rB u)):=by
 obtain⟨Ql,ZU⟩:=aa0.1 hnd
 unfold trees at ht
 rcases hE.par v hv with ⟨a,k1,k2,k3,k4⟩|⟨k1,k2⟩
 ·have:=hE.h0 a k1
  rw[k4] at ht
  dsimp only at ht
  rw[if_neg (by omega)] at ht
  exact .inl ⟨hf a,by omega,k4,ht⟩
 ·rw[k2] at ht
  dsimp only at ht
  rw[if_pos rfl] at ht
  have hi:=h.enter hv k1 (hro v k1 aag)
  refine .inr ⟨k2,hi,?_⟩
  rcases DL hE N hi (by simp;omega) with q|⟨fC,rB,G1,q1,q2,q3,q4,q5⟩
  ·rw[q.1] at ht
   exact .inl ⟨q.1,(aak ht).symm⟩
  ·rw[q1] at ht
   refine .inr ⟨fC,rB,G1,q1,q2,ht,fun u hu hm hfu=> ?_⟩
   rcases q5 u hfu with q|⟨l,hl,q⟩|⟨a,a1,a2,a3⟩
   ·exact hro u hu (aah _ hm) q
   ·rw[aao.1 hl] at q
    dsimp only at q
    rw[q] at Ql
    exact Ql hm
   ·exact hu a a1 a2 a3
end
end Lt
section
variable {c:Wp} {p t:Nat} {W0 W wr:World} {O B:Nat→Prop} {st:TS} {L U Z:Nat} {vp vw:Value}
set_option maxRecDepth 100000 in
set_option maxHeartbeats 16000000 in
theorem JO {T:DF c.n c.es.length} {oe:Nat→List Nat} {hf:Nat→Int} (hE:dM T c.env oe hf) (h:aR c p t W0 O st L U Z vp vw W) {fin:Nat→Prop} {G:List Nat} (hI:Inv T c.env oe st fin G []) {N:Nat} (hN:2*c.es.length+1≤N) (nE:∀x∈c.s.ord,∃v:Nat,v<c.n∧x=(v:Int)) (hnd:c.s.ord.Nodup) (hro:∀u:Nat,Root T u→(u:Int)∈c.s.ord→¬fin u) {r:Option TS} (ht:trees c.env N c.s.ord st=some r):
 Calls Tryz.prog 28 #[.pointer (some ⟨t,0,none⟩)] W (gC c p t W0 O W r):=by
 have hn:=h.wk.val.hi
 have hl:=h.wk.vf.lens
 have x0:=h.cells.1
 have x1:=h.now.c4
 have nN:=Nu.hid (aD.start h)
 have sO:Hid (∀st' w',aT c p t W0 O W st' w'→aD c p t W0 O W (fun _=>False) st' w'):=fun st' w' hp=>hp.into h
 have fN:=Nu.hid h.now
 have jr:=Nu.hid h
 have HE:=Nu.hid hE
 have HI:=Nu.hid hI
 have HT:=Nu.hid ht
 have HRO:=Nu.hid hro
 have HND:=Nu.hid hnd
 have agB:=Nu.hid nE
 have HL:=Nu.hid hl
 have HN:Hid (c.n≤1048576):=by show c.n≤1048576;omega
 clear h hE hI ht hro hnd nE hl hn
 go_enter Tryz.func28,Tryz.ntmps28
 go_wp2_with fail
 go_loopw [14] (fun cv wr=>∃i:Nat,cv= .int .i64 (i:Int)∧i≤c.n∧∃st fin G,Inv T c.env oe st fin G []∧aD c p t W0 O W (fun _=>False) st wr∧trees c.env N (c.s.ord.drop i) st=some r∧∀u:Nat,Root T u→(u:Int)∈c.s.ord.drop i→¬fin u) (fun cv _=>c.n-(intOf cv).toNat)
 case atStart=>exact⟨0,rfl,aax _,st,fin,G,HI.out,nN.out,HT.out,HRO.out⟩
 case round=>
  obtain⟨i,rfl,hin,fC,rB,G1,xA,mQ,Fi,Ba⟩:=hrel
  have fq:=Nu.hid mQ
  by_cases hic:i<c.n
  ·have hsp:c.s.ord.drop i=Df.at_ c.s.ord i::c.s.ord.drop (i+1):=by
    have hlt:i<c.s.ord.length:=by rw[HL.out.2.2.1];exact hic
    rw[abJ hlt]
    unfold Df.at_
    simp[hlt]
   obtain⟨v,hv,Ia⟩:=agB.out (Df.at_ c.s.ord i) (List.mem_of_mem_drop (i:=i) (by rw[hsp];exact aag))
   rw[hsp,Ia] at Fi Ba
   have MG:((v:Int)::c.s.ord.drop (i+1)).Nodup:=by
    rw[←Ia,←hsp]
    exact HND.out.drop
   have hca:=DD HE.out hN xA hv MG Ba Fi
   obtain⟨-,-,O',-,-,L',U',Z',o9,qA,hT⟩:=mQ
   obtain⟨bo,oo,eo,lI⟩:=hT.now.ord hic
   obtain⟨bp,op,ep,pW⟩:=hT.now.par hv
   have z0:=hT.cells.1
   have z1:=lI wr (aae _ _) i hic
   rw[Ia] at z1
   have z2:=hT.now.c2
   rw[ep] at z2
   have z3:=pW wr (aae _ _) v hv
   have hpar:bz c.env.par (v:Int)=some (Df.at_ c.s.par v):=at_at (by show _<c.s.par.length;rw[HL.out.1];exact hv)
   have i0:(0:Int)≤(i:Int):=by omega
   have i1:(i:Int)<(c.n:Int):=by omega
   have i2:(i:Int)+1≤1048576:=by have:=HN.out;omega
   have t0:(0:Int)≤(v:Int):=by omega
   have t1:(v:Int)<(c.n:Int):=by omega
   rw[hpar] at hca
   obtain⟨x,hx⟩:∃x,Df.at_ c.s.par v=x:=⟨_,rfl⟩
   rw[hx] at hca z3
   rw[eo]
   rcases hca with ⟨x',hx1,hx2,hx3⟩|⟨hx2,Fy,hca⟩
   ·cases hx2
    have uZ:(x== -1)=false:=by simp only[beq_eq_false_iff_ne,ne_eq];exact hx1
    have fB:Hid (∃st fin G,Inv T c.env oe st fin G []∧aD c p t W0 O W (fun _=>False) st wr∧trees c.env N (c.s.ord.drop (i+1)) st=some r∧∀u:Nat,Root T u→(u:Int)∈c.s.ord.drop (i+1)→¬fin u):=⟨fC,rB,G1,xA,fq.out,hx3,fun u hu hm=>Ba u hu (aah _ hm)⟩
    clear hT xA Fi Ba MG hsp Ia lI pW eo ep hpar hx hx3
    go_wp2_with fail
    go_roundw
    case rel=>exact⟨i+1,by simp,by omega,fB.out⟩
    case measure=>
     simp[intOf]
     omega
   ·cases hx2
    have vR:Hid (∀r1,run c.env N (enter fC v)=some r1→Calls Tryz.prog 51 #[.pointer (some ⟨t,0,none⟩),.int .i64 (v:Int)] wr (gC c p t W0 O W r1)):=fun r1 h1=>fq.out.says fun qx=>JN HE.out qx Fy h1
    rcases hca with ⟨s1,s2⟩|⟨nP,mW,G2,s1,Ld,hx3,XN⟩
    ·have ni:=Nu.hid (vR.out none s1)
     have TG:=Nu.hid s2
     clear hT xA Fi Ba MG hsp Ia lI pW eo ep hpar hx s1 s2 Fy
     go_wp2_with (go_at_call 51;refine ni.out.mono ?_;rintro e1 w2 ⟨nP,rfl,iQ⟩;have kJ:=Nu.hid iQ;clear iQ)
     go_ret
     rw[TG.out]
     exact⟨nP,rfl,kJ.out⟩
    ·have ni:=Nu.hid (vR.out (some nP) s1)
     have fB:Hid (∀w2,aD c p t W0 O W (fun _=>False) nP w2→∃st fin G,Inv T c.env oe st fin G []∧aD c p t W0 O W (fun _=>False) st w2∧trees c.env N (c.s.ord.drop (i+1)) st=some r∧∀u:Nat,Root T u→(u:Int)∈c.s.ord.drop (i+1)→¬fin u):=fun w2 h2=>⟨nP,mW,G2,Ld,h2,hx3,XN⟩
     clear hT xA Fi Ba MG hsp Ia lI pW eo ep hpar hx hx3 s1 Fy Ld XN
     go_wp2_with (go_at_call 51;refine ni.out.mono ?_;rintro e1 w2 ⟨rfl,iQ⟩;have kJ:=Nu.hid iQ;clear iQ)
     go_roundw
     case rel=>exact⟨i+1,by simp,by omega,fB.out _ (sO.out _ _ kJ.out)⟩
     case measure=>
      simp[intOf]
      omega
  ·have aeK:i=c.n:=by omega
   subst aeK
   have QN:r=some fC:=by
    rw[acN (by rw[HL.out.2.2.1];exact aad _)] at Fi
    exact(aak Fi).symm
   have xM:=Nu.hid QN
   clear xA mQ Fi Ba QN
   go_wp2_with fail
   go_ret
   rw[xM.out]
   exact⟨rfl,fq.out.post⟩
end
end
section
namespace Lt
def Wy (like:List Int):List Nat→Int→Prop
 |[],x=>bz like x=some (-1)
 |z::ws,x=>x=(z:Int)∧∃y,bz like x=some y∧y≠-1∧Wy like ws y
def tell (l:List Int×List Int) (x:Nat):Option (List Int×List Int):=
 match bz l.1 (x:Int) with
 |none=>none
 |some y=>
  match bz l.2 (x:Int),bz l.2 y,eT l.1 (x:Int) (-1) with
  |some a,some b,some eW=>
   match eT l.2 (x:Int) (a*b) with
   |none=>none
   |some tB=>some (eW,tB)
  |_,_,_=>none
def fW (l:List Int×List Int):List Nat→Option (List Int×List Int)
 |[]=>some l
 |x::ws=>(fW l ws).bind fun r=>tell r x
theorem p8 {l:List Int} {x a:Int} (h:bz l x=some a):∃k:Nat,x=(k:Int)∧k<l.length∧l[k]? =some a:=by
 unfold bz at h
 split at h
 ·rename_i h0
  exact⟨x.toNat,by omega,(aas.1 h).1,h⟩
 ·cases h
theorem wI:∀{k:Nat} {like turn:List Int} {x:Int} {r:List Int×List Int},side k like turn x=some r→∃ws:List Nat,Wy like ws x∧fW (like,turn) ws=some r
 |0,_,_,_,_,h=>by cases h
 |k+1,like,turn,x,r,h=>by
  unfold side at h
  cases h1:bz like x with
  |none=>rw[h1] at h;cases h
  |some y=>
   rw[h1] at h
   dsimp only at h
   by_cases hy:y= -1
   ·rw[if_pos hy] at h
    cases h
    exact⟨[],by show bz like x=some (-1);rw[←hy];exact h1,rfl⟩
   ·rw[if_neg hy] at h
    cases h2:side k like turn y with
    |none=>rw[h2] at h;cases h
    |some r1=>
     obtain⟨l1,t1⟩:=r1
     rw[h2] at h
     dsimp only at h
     obtain⟨ws,w1,w2⟩:=wI h2
     obtain⟨z,rfl,hz,-⟩:=p8 h1
     refine⟨z::ws,⟨rfl,y,h1,hy,w1⟩,?_⟩
     unfold fW
     rw[w2]
     show tell (l1,t1) z=some r
     unfold tell
     exact h
theorem Wy.lt {like:List Int}:∀{ws:List Nat} {x:Int},Wy like ws x→∀z∈ws,z<like.length
 |[],_,_,z,hz=>by simp at hz
 |a::ws,x,h,z,hz=>by
  obtain⟨rfl,y,h1,_,h3⟩:=h
  rcases aaj.1 hz with q|q
  ·obtain⟨k,e1,e2,_⟩:=p8 h1
   omega
  ·exact h3.lt z q
theorem Wy.unique {like:List Int}:∀{ws us:List Nat} {x:Int},Wy like ws x→Wy like us x→ws=us
 |[],[],_,_,_=>rfl
 |[],b::us,x,h,h'=>by
  obtain⟨_,y,h1,h2,_⟩:=h'
  have h0:bz like x=some (-1):=h
  rw[h0] at h1
  exact absurd (aak h1).symm h2
 |a::ws,[],x,h,h'=>by
  obtain⟨_,y,h1,h2,_⟩:=h
  have h0:bz like x=some (-1):=h'
  rw[h0] at h1
  exact absurd (aak h1).symm h2
 |a::ws,b::us,x,h,h'=>by
  obtain⟨e1,y,h1,_,h3⟩:=h
  obtain⟨e2,y',h1',_,h3'⟩:=h'
  rw[h1] at h1'
  obtain rfl:=aak h1'
  obtain rfl:a=b:=by omega
  rw[Wy.unique h3 h3']
theorem Wy.from {like:List Int}:∀{ws:List Nat} {x:Int},Wy like ws x→∀z∈ws,∃us,us.length≤ws.length∧Wy like us (z:Int)
 |[],_,_,z,hz=>by simp at hz
 |a::ws,x,h,z,hz=>by
  have h':=h
  obtain⟨e1,y,h1,h2,h3⟩:=h
  rcases aaj.1 hz with q|q
  ·subst q
   rw[e1] at h'
   exact⟨z::ws,aad _,h'⟩
  ·obtain⟨us,k1,k2⟩:=h3.from z q
   exact⟨us,by rw[aar];omega,k2⟩
theorem Wy.nodup {like:List Int}:∀{ws:List Nat} {x:Int},Wy like ws x→ws.Nodup
 |[],_,_=>adr
 |a::ws,x,h=>by
  have h':=h
  obtain⟨e1,y,h1,h2,h3⟩:=h
  refine aa0.2 ⟨fun q=> ?_,h3.nodup⟩
  obtain⟨us,k1,k2⟩:=h3.from a q
  rw[e1] at h'
  have:=congrArg List.length (h'.unique k2)
  rw[aar] at this
  omega
theorem Wy.len {like:List Int} {ws:List Nat} {x:Int} (h:Wy like ws x):ws.length≤like.length:=fG h.nodup h.lt
end Lt
end
section
open Go.RowKit Go.Shelf Lt
attribute [local go_sem] Oper.semAt_some
namespace Lt
theorem Aa {l:List Int×List Int} {x:Nat} {r:List Int×List Int} (h:tell l x=some r):∃(y:Nat) (a b:Int),x<l.1.length∧x<l.2.length∧y<l.2.length∧l.1[x]? =some (y:Int)∧l.2[x]? =some a∧l.2[y]? =some b∧r=(l.1.set x (-1),l.2.set x (a*b)):=by
 unfold tell at h
 cases h1:bz l.1 (x:Int) with
 |none=>rw[h1] at h;cases h
 |some y=>
  rw[h1] at h
  dsimp only at h
  cases h2:bz l.2 (x:Int) with
  |none=>rw[h2] at h;cases h
  |some a=>
   cases h3:bz l.2 y with
   |none=>rw[h2,h3] at h;cases h
   |some b=>
    obtain⟨k1,e1,q1,p1⟩:=p8 h1
    obtain⟨k2,e2,q2,p2⟩:=p8 h2
    obtain⟨k3,rfl,q3,p3⟩:=p8 h3
    obtain rfl:k1=x:=by omega
    obtain rfl:k2=k1:=by omega
    rw[h2,h3,mI q1] at h
    dsimp only at h
    rw[mI q2] at h
    exact⟨k3,a,b,q1,q2,q3,p1,p2,p3,(aak h).symm⟩
theorem uj:∀{ws:List Nat} {l r:List Int×List Int},fW l ws=some r→r.1.length=l.1.length∧r.2.length=l.2.length
 |[],l,r,h=>by cases h;exact⟨rfl,rfl⟩
 |x::ws,l,r,h=>by
  unfold fW at h
  obtain⟨q,h1,h2⟩:=acE.1 h
  obtain⟨y,a,b,_,_,_,_,_,_,rfl⟩:=Aa h2
  have:=uj h1
  simpa using this
def Pm (u:List Int):Prop:=∀(z:Nat) (x:Int),u[z]? =some x→x=1∨x= -1
theorem Pm.tell {l r:List Int×List Int} {x:Nat} (h:Pm l.2) (ht:tell l x=some r):Pm r.2:=by
 obtain⟨y,a,b,_,h2,_,_,ha,hb,rfl⟩:=Aa ht
 intro z v hz
 dsimp only at hz
 rw[aaq] at hz
 by_cases e:x=z
 ·subst e
  rw[if_pos rfl,if_pos h2] at hz
  cases hz
  rcases h _ _ ha with rfl|rfl<;>rcases h _ _ hb with rfl|rfl<;>simp
 ·rw[if_neg e] at hz
  exact h z v hz
theorem Pm.fW:∀{ws:List Nat} {l r:List Int×List Int},Pm l.2→fW l ws=some r→Pm r.2
 |[],l,r,h,hb=>by cases hb;exact h
 |x::ws,l,r,h,hb=>by
  unfold Lt.fW at hb
  obtain⟨q,h1,h2⟩:=acE.1 hb
  exact(Pm.fW h h1).tell h2
theorem yK {l r:List Int×List Int}:∀{ws:List Nat},fW l ws=some r→∀i,∃q,fW l (ws.drop i)=some q
 |ws,h,0=>⟨r,h⟩
 |[],h,i+1=>⟨r,h⟩
 |x::ws,h,i+1=>by
  unfold Lt.fW at h
  obtain⟨q,h1,h2⟩:=acE.1 h
  rw[List.drop_succ_cons]
  exact yK h1 i
end Lt
def sLen:Value→Nat
 | .slice _ n _=>n
 |_=>0
section
variable {c:Wp} {p t:Nat} {W0 W:World} {O:Nat→Prop} {st:TS} {L U Z:Nat} {vp vw:Value}
theorem dU.keep {α:Type} {T:TypeId} {k:Nat} {fl:α→List Value} {w w':World} {B:Nat} {v:Value} {l:List α} (h:dU T k fl w B v l) (hb:∀g o,v.ownBlock=some g→w.heap[g]? =some o→o.isCells=true→w'.heap[g]? =some o):dU T k fl w' B v l:=by
 refine⟨h.1,?_⟩
 rcases h.2 with h|⟨g,cap,cur,e1,hgB,hh,hr⟩
 ·exact .inl h
 ·exact .inr ⟨g,cap,cur,e1,hgB,hb g _ (by rw[e1];rfl) hh rfl,hr⟩
theorem aR.ZH (h:aR c p t W0 O st L U Z vp vw W) {X:World} {l u:List Int} (hb:Below W0.heap.size W0 X) (hs:W.heap.size≤X.heap.size) (hk:∀b o,W.heap[b]? =some o→o.isCells=true→b≠L→b≠U→X.heap[b]? =some o) (h1:aq X L l) (h2:aq X U u) (l1:l.length=c.es.length) (l2:u.length=c.es.length):aR c p t W0 O { st with like:=l,turn:=u } L U Z vp vw X:=by
 obtain⟨a1,a2,a3,a4,a5,a6⟩:=h.n1
 exact⟨h.wk,hb,hk _ _ h.blk rfl a1 a2,h1,h2,hk _ _ h.lowest rfl (aaR a5) (aaR a6),l1,l2,h.lz,h.qJ.keep fun g o hg ho hc=>hk g o ho hc (h.n2 g hg).2.1 (h.n2 g hg).2.2.1,h.way.keep fun g o hg ho hc=>hk g o ho hc (h.n3 g hg).2.1 (h.n3 g hg).2.2.1,h.oT,h.oL,h.oU,h.oZ,h.oP,h.oW,h.oB,fun b hb'=>aa7 (h.oX b hb') hs,h.n1,h.n2,h.n3,h.n4⟩
def rI (c:Wp) (p t:Nat) (W0:World) (O:Nat→Prop) (st:TS) (L U Z:Nat) (vp vw:Value) (W:World) (r:List Int×List Int) (x:Nat) (e:Ending) (w':World):Prop:=
 (∃z,r.2[x]? =some z∧e= .returned (.int .i64 z))∧(bE W0.heap.size (fun b=>b=L∨b=U) W w'∧W.heap.size≤w'.heap.size)∧aR c p t W0 O { st with like:=r.1,turn:=r.2 } L U Z vp vw w'
set_option maxRecDepth 100000 in
set_option maxHeartbeats 16000000 in
theorem JP (h:aR c p t W0 O st L U Z vp vw W) (Q3:Pm st.turn) {k e:Nat} (he:e<c.es.length) {r:List Int×List Int} (hr:Lt.side k st.like st.turn (e:Int)=some r):Calls Tryz.prog 52 #[.pointer (some ⟨t,1,none⟩),.int .i64 (e:Int)] W (rI c p t W0 O st L U Z vp vw W r e):=by
 obtain⟨ws,hw,hbk⟩:=wI hr
 have cj:=h.wk.val.few
 have hwl:=hw.len
 rw[h.ll] at hwl
 obtain⟨W1,hW1⟩:∃W1,W1=W.alloc (.cells #[.pointer (some ⟨t,1,none⟩)] 147):=⟨_,rfl⟩
 have hb1:Below W.heap.size W W1:=by rw[hW1];exact(aae _ _).alloc (aad _) _
 have hs1:W1.heap.size=W.heap.size+1:=by rw[hW1];simp
 have bx:Boxed W1 W.heap.size 147 (.pointer (some ⟨t,1,none⟩)):=by rw[hW1];exact heap_alloc_new W _
 have h1:=h.later hb1
 have x0:=bx.cell
 have x1:=h1.cells.2.1
 have jr:=Nu.hid h
 have eN:=Nu.hid h1
 have jE:=Nu.hid hW1
 have aY:=Nu.hid hb1
 have HWY:=Nu.hid hw
 have xU:=Nu.hid hbk
 have TV:=Nu.hid Q3
 have jW:=Nu.hid bx
 have F8:=Nu.hid hs1
 clear h h1 hr hw hbk Q3 bx hb1 hs1 hW1
 refine(callsIn_wide (n:=9)).1 ?_
 refine callsIn_of_wp_marks Tryz.func52 rfl trivial ?_ rfl
 simp only[Tryz.ntmps52,abR,aar,aaS,Nat.reduceAdd,Nat.reduceSub,abA,abB,abS,abK,aaE,abi]
 refine wpIn_wide.2 ?_
 go_wp2_with fail
 rw[←jE.out]
 go_loopw [5,6] (fun wv xv wr=>∃(dn rs:List Nat) (x:Int),xv= .int .i64 x∧ws=dn++rs∧Wy st.like rs x∧aP wr W1.heap.size wv (dn.map fun z:Nat=>(z:Int))∧Below W1.heap.size W1 wr) (fun wv _ _=>ws.length-sLen wv)
 case atStart=>exact⟨[],ws,_,rfl,rfl,HWY.out,aP.nil _ _,aae _ _⟩
 case round=>
  obtain⟨dn,rs,x,rfl,Qz,A4,hown,hbr⟩:=hrel
  obtain⟨ao,cap,rfl,hat,-⟩:=hown.form
  rw[aa3] at hown ⊢
  have hl:=congrArg List.length Qz
  rw[aaA] at hl
  obtain⟨y,hy1,hy2⟩:∃y,bz st.like x=some y∧((rs=[]∧y= -1)∨∃z rs',rs=z::rs'∧x=(z:Int)∧y≠-1∧Wy st.like rs' y):=by
   cases rs with
   |nil=>exact⟨-1,A4,.inl ⟨rfl,rfl⟩⟩
   |cons z rs'=>
    obtain⟨e1,y,e2,e3,e4⟩:=A4
    exact⟨y,e2,.inr ⟨z,rs',rfl,e1,e3,e4⟩⟩
  obtain⟨a,rfl,ha1,ha2⟩:=p8 hy1
  have lK:a<c.es.length:=by rw[←jr.out.ll];exact ha1
  have hT:=eN.out.later hbr
  have z0:=(show Boxed wr W.heap.size 147 (.pointer (some ⟨t,1,none⟩)) from(hbr.block _ jW.out.lt).trans jW.out).cell
  have z1:=hT.cells.2.1
  have z2:wr.cell? ⟨L,a,none⟩=some (.int .i64 y):=hT.like.cell ha2
  have i0:(0:Int)≤(a:Int):=by omega
  have i1:(a:Int)<(c.es.length:Int):=by omega
  have yO:=Nu.hid hown
  have vY:=Nu.hid hbr
  have JD:=Nu.hid hat
  have Xd:=Nu.hid ha2
  rcases hy2 with ⟨QM,hy⟩|⟨z,rs',QM,hz,hy,Xx⟩
  ·subst QM
   subst hy
   rw[abf] at Qz
   subst Qz
   have UA:Hid (∀X,Calls Tryz.prog 40 #[.slice ao ws.length cap] X (o7 ao ws.length cap X)):=fun X=>kO _ _ _ X
   clear hown hbr hat hT A4 hy1 ha1 ha2 hl
   go_wp2_with (go_at_call 40;refine(UA.out _).mono ?_;rintro e1 V1 ⟨Bs,rfl,tT,bs,hb1⟩)
   have hs1:=hb1.size
   have hsr:=vY.out.size
   have hS1:=F8.out
   have hB1:Below W1.heap.size W1 V1:=vY.out.trans (hb1.mono hsr)
   have hT:=eN.out.later hB1
   have hLW:L<W.heap.size:=jr.out.oX L jr.out.oL
   have hUW:U<W.heap.size:=jr.out.oX U jr.out.oU
   have htW:t<W.heap.size:=jr.out.oX t jr.out.oT
   have SJ:W0.heap.size≤L:=jr.out.oB L jr.out.oL
   have hU0:W0.heap.size≤U:=jr.out.oB U jr.out.oU
   have Vd:W0.heap.size≤W.heap.size:=jr.out.aI.size
   obtain⟨n1,n2,n3,n4,n5,n6⟩:=hT.n1
   obtain⟨zs,hzs⟩:∃zs:List Int,zs=ws.map fun z:Nat=>(z:Int):=⟨_,rfl⟩
   have HZ:Hid (∀i (h:i<ws.length),zs[i]? =some ((ws[i]:Nat):Int)∧Df.at_ zs i=((ws[i]:Nat):Int)):=fun i h=>by
    have h1:zs[i]? =some ((ws[i]:Nat):Int):=by rw[hzs,aay,aac h];rfl
    refine⟨h1,?_⟩
    unfold Df.at_
    rw[aai,h1]
    rfl
   have Pn:Hid (aP wr W1.heap.size (.slice ao ws.length cap) zs):=by rw[hzs];exact yO.out
   have hzl:zs.length=ws.length:=by rw[hzs];simp
   clear hzs
   have hcs:∀i,i<ws.length→∃b o,ao=some ⟨b,o,none⟩∧∀X,bE W0.heap.size (fun b=>b=L∨b=U) V1 X→X.cell? ⟨b,o+i,none⟩=some (.int .i64 (Df.at_ zs i)):=fun i hi=>by
    obtain⟨hli,hat⟩:=HZ.out i hi
    have ho1:=Pn.out.later hb1
    obtain⟨zC,cap',ev,hin,hblk⟩:=ho1.form
    obtain⟨b,o,e1,hcell⟩:=hin i _ hli
    rw[e1] at ev hblk
    have:=hblk _ rfl
    rw[hzl] at ev
    refine⟨b,o,by cases ev;rfl,fun X hX=> ?_⟩
    rw[hat]
    exact hX.cell hcell (by dsimp only at this ⊢;omega)
   refine(wpIn_wide (n:=9)).1 ?_
   refine sr (n:=9) (gf:=66) (lb:= #[.pointer (some ⟨Bs,0,none⟩)]) (by rfl) (enters_of Tryz.func66 (by kernel_rfl) rfl)
    (xH Bs W0.heap.size cap ws.length (fun b=>b=L∨b=U) ao zs (by omega) V1 (by omega) bs hcs (by omega)) (by omega) (fun _=>rfl)
    (fun pre X=>(∃A1 A2,aq X L A1∧aq X U A2∧fW (st.like,st.turn) (ws.drop (ws.length-pre.length))=some (A1,A2))∧bE W0.heap.size (fun b=>b=L∨b=U) V1 X) (fun _ _ _=>False)
    (ab0 (pH _ L U (fun (pre:List Nat) A1 A2=>fW (st.like,st.turn) (ws.drop (ws.length-pre.length))=some (A1,A2))) (bE.own (by omega) (by omega))) (fun _ _ _ _ _ hs _ _=>hs)
    ⟨⟨_,_,hT.like,hT.turn,by rw[aaS,Nat.sub_zero,List.drop_length];rfl⟩,bE.refl _ _ _⟩
    (fun x a' _=>a'={ tmps:= #[.pointer (some ⟨t,1,none⟩),.int .i64 (e:Int),.pointer (some ⟨W.heap.size,0,none⟩),undef,.int .i64 0,.slice ao ws.length cap,.int .i64 (a:Int),undef,.int .i64 (Df.at_ zs x),.int .i64 (e:Int),.pointer (some ⟨t,1,none⟩),.pointer (some ⟨t,1,none⟩),.pointer (some ⟨t,1,none⟩),.slice (some ⟨L,0,none⟩) c.es.length c.es.length,.int .i64 (a:Int),.pointer (some ⟨L,a,none⟩),.int .i64 (-1),.bool false,u18,u19,u20,u21,u22,u23,u24,u25,u26,u27,u28,.slice ao ws.length cap,.func (.func 66) #[] #[.pointer (some ⟨Bs,0,none⟩)],.int .i64 (x:Int),.int .i64 (Df.at_ zs x),undef,undef,undef,undef,undef,undef,undef,undef,undef,undef,undef,undef,undef,undef,undef,undef,undef,undef,undef,undef,undef,undef,undef,undef,undef,undef,undef,undef,undef,undef,undef,undef,undef,undef,undef],defers:=[] })
    (fun x a'=>ownFrom_pure _ _) ?assign ?body ?done ?stop
   case assign=>
    intro l pre x X K _ hi hK
    gi_wp2
    exact hK _ _ (ab6 _ _) (bE.refl _ _ _) hi rfl
   case body=>
    rintro l pre x0 a' C ⟨hl,-⟩-hpx ⟨⟨A1,A2,i1,i2,hbk⟩,hkp⟩ rfl
    obtain⟨hpl,uZ⟩:=pZ hpx
    have hx0:x0<ws.length:=by omega
    obtain⟨x,hx⟩:∃x:Nat,x=ws[x0]:=⟨_,rfl⟩
    have Yx:Df.at_ zs x0=(x:Int):=by rw[(HZ.out x0 hx0).2,hx]
    rw[Yx]
    have hdr:ws.drop (ws.length-(pre++[x0]).length)=x::ws.drop (ws.length-pre.length):=by
     rw[aaA,abn,show ws.length-(pre.length+1)=x0 by omega,abJ hx0,←hx,show x0+1=ws.length-pre.length by omega]
    obtain⟨q,hq⟩:=yK xU.out (ws.length-(pre++[x0]).length)
    have Fm:=hq
    rw[hdr] at hq
    unfold Lt.fW at hq
    rw[hbk] at hq
    have wY:tell (A1,A2) x=some q:=hq
    obtain⟨y,za,zb,w1,w2,w3,w4,w5,w6,rfl⟩:=Aa wY
    have hlen:=uj hbk
    dsimp only at w1 w2 w3 w4 w5 w6 hlen
    rw[jr.out.ll,jr.out.lu] at hlen
    have XS:Pm A2:=TV.out.fW hbk
    have hwr:IntKind.i64.wrap (za*zb)=za*zb:=by
     rcases XS _ _ w5 with rfl|rfl<;>rcases XS _ _ w6 with rfl|rfl<;>rfl
    have hCs:V1.heap.size≤C.heap.size:=hkp.1.size
    have bC:Boxed C W.heap.size 147 (.pointer (some ⟨t,1,none⟩)):=hkp.boxed ((hB1.block _ jW.out.lt).trans jW.out) (by omega)
    have tC:=hkp.2 _ _ hT.blk rfl (by omega)
    have kb:C.drew.cell? ⟨W.heap.size,0,none⟩=some (.pointer (some ⟨t,1,none⟩)):=bC.cell
    have k1:C.drew.cell? ⟨t,1,none⟩=some (.slice (some ⟨L,0,none⟩) c.es.length c.es.length):=by
     show C.cell? _=_
     simp[World.cell?,tC]
    have k2:C.drew.cell? ⟨t,2,none⟩=some (.slice (some ⟨U,0,none⟩) c.es.length c.es.length):=by
     show C.cell? _=_
     simp[World.cell?,tC]
    have k3:C.drew.cell? ⟨U,x,none⟩=some (.int .i64 za):=i2.cell w5
    have k4:C.drew.cell? ⟨L,x,none⟩=some (.int .i64 (y:Int)):=i1.cell w4
    have k5:C.drew.cell? ⟨U,y,none⟩=some (.int .i64 zb):=i2.cell w6
    have k6:C.drew.frozen? ⟨U,x,none⟩=false:=i2.free x
    have i0:(0:Int)≤(x:Int):=by omega
    have i1':(x:Int)<(c.es.length:Int):=by omega
    have j0:(0:Int)≤(y:Int):=by omega
    have j1:(y:Int)<(c.es.length:Int):=by omega
    have HPX:Hid (fW (st.like,st.turn) (ws.drop (ws.length-(pre++[x0]).length))=some (A1.set x (-1),A2.set x (za*zb))):=Fm
    have ng:=Nu.hid i1
    have fX:=Nu.hid i2
    have ot:=Nu.hid hkp
    have L8:=Nu.hid hlen
    clear uZ hx Yx hdr hq Fm wY hbk w1 w2 w3 w4 w5 w6 i1 i2 hkp hlen
    gi_wp2
    refine wpIn_region_any (by kernel_rfl) ?_
    refine aj.B6 (fun ix=>match ix with|0=> .pointer (some ⟨t,1,none⟩)|1=> .pointer (some ⟨t,1,none⟩)|2=> .pointer (some ⟨t,2,none⟩)|3=> .slice (some ⟨U,0,none⟩) c.es.length c.es.length|4=> .int .i64 (x:Int)|5=> .pointer (some ⟨U,x,none⟩)|6=> .int .i64 za|7=> .pointer (some ⟨t,1,none⟩)|8=> .pointer (some ⟨t,1,none⟩)|9=> .pointer (some ⟨t,2,none⟩)|10=> .slice (some ⟨U,0,none⟩) c.es.length c.es.length|11=> .pointer (some ⟨t,1,none⟩)|12=> .pointer (some ⟨t,1,none⟩)|13=> .pointer (some ⟨t,1,none⟩)|14=> .slice (some ⟨L,0,none⟩) c.es.length c.es.length|15=> .int .i64 (x:Int)|16=> .pointer (some ⟨L,x,none⟩)|17=> .int .i64 (y:Int)|18=> .pointer (some ⟨U,y,none⟩)|19=> .int .i64 zb|20=> .int .i64 (za*zb)|21=> .pointer (some ⟨U,x,none⟩)|_=>undef) (AnyM.bG C.drew [(22,C.drew.setCell ⟨U,x,none⟩ (.int .i64 (za*zb)))]) 68 rfl (by kernel_rfl) (by kernel_rfl) rfl ?_ ?_
    ·intro ix o' Ls V ev ho bP hC bU hdc aA aS lG iW
     have hc:ix=0∨ix=1∨ix=2∨ix=3∨ix=4∨ix=5∨ix=6∨ix=7∨ix=8∨ix=9∨ix=10∨ix=11∨ix=12∨ix=13∨ix=14∨ix=15∨ix=16∨ix=17∨ix=18∨ix=19∨ix=20∨ix=21∨ix=22:=by
      have:ix<23:=(aam.1 ho).1
      omega
     have hst:Ls 22=false:=by
      cases h:Ls 22 with
      |false=>rfl
      |true=>
       exfalso
       have hq:Ls ix=true:=by
        rcases hc with rfl|rfl|rfl|rfl|rfl|rfl|rfl|rfl|rfl|rfl|rfl|rfl|rfl|rfl|rfl|rfl|rfl|rfl|rfl|rfl|rfl|rfl|rfl
        ·exact hdc 22 _ rfl h ⟨0,.phase⟩ (by simp) rfl
        ·exact hdc 22 _ rfl h ⟨1,.phase⟩ (by simp) rfl
        ·exact hdc 22 _ rfl h ⟨2,.phase⟩ (by simp) rfl
        ·exact hdc 22 _ rfl h ⟨3,.phase⟩ (by simp) rfl
        ·exact hdc 22 _ rfl h ⟨4,.phase⟩ (by simp) rfl
        ·exact hdc 22 _ rfl h ⟨5,.phase⟩ (by simp) rfl
        ·exact hdc 22 _ rfl h ⟨6,.phase⟩ (by simp) rfl
        ·exact hdc 22 _ rfl h ⟨7,.phase⟩ (by simp) rfl
        ·exact hdc 22 _ rfl h ⟨8,.phase⟩ (by simp) rfl
        ·exact hdc 22 _ rfl h ⟨9,.phase⟩ (by simp) rfl
        ·exact hdc 22 _ rfl h ⟨10,.phase⟩ (by simp) rfl
        ·exact hdc 22 _ rfl h ⟨11,.phase⟩ (by simp) rfl
        ·exact hdc 22 _ rfl h ⟨12,.phase⟩ (by simp) rfl
        ·exact hdc 22 _ rfl h ⟨13,.phase⟩ (by simp) rfl
        ·exact hdc 22 _ rfl h ⟨14,.phase⟩ (by simp) rfl
        ·exact hdc 22 _ rfl h ⟨15,.phase⟩ (by simp) rfl
        ·exact hdc 22 _ rfl h ⟨16,.phase⟩ (by simp) rfl
        ·exact hdc 22 _ rfl h ⟨17,.phase⟩ (by simp) rfl
        ·exact hdc 22 _ rfl h ⟨18,.phase⟩ (by simp) rfl
        ·exact hdc 22 _ rfl h ⟨19,.phase⟩ (by simp) rfl
        ·exact hdc 22 _ rfl h ⟨20,.data⟩ (by simp) rfl
        ·exact hdc 22 _ rfl h ⟨21,.data⟩ (by simp) rfl
        ·exact h
       rw[bP] at hq
       cases hq
     have hV:V=C.drew:=by
      simp only[AnyM.bG,hst,aau,if_false] at hC
      exact hC
     subst hV
     rcases hc with rfl|rfl|rfl|rfl|rfl|rfl|rfl|rfl|rfl|rfl|rfl|rfl|rfl|rfl|rfl|rfl|rfl|rfl|rfl|rfl|rfl|rfl|rfl<;>obtain rfl:=aak ho
     ·have e1:ev (.tmp 2)= .pointer (some ⟨W.heap.size,0,none⟩):=aS 2 (by kernel_rfl)
      exact aj.ah (v:= .pointer (some ⟨t,1,none⟩)) (w':=_) (by simp[execOp,go_sem,e1,kb]) ⟨rfl,AnyM.other rfl hC⟩
     ·have e1:ev (.tmp 33)= .pointer (some ⟨t,1,none⟩):=aA 0 33 (by omega) rfl (by decide)
      exact aj.ah (v:= .pointer (some ⟨t,1,none⟩)) (w':=_) (by simp[execOp,go_sem,e1]) ⟨rfl,AnyM.other rfl hC⟩
     ·have e1:ev (.tmp 34)= .pointer (some ⟨t,1,none⟩):=aA 1 34 (by omega) rfl (by decide)
      exact aj.ah (v:= .pointer (some ⟨t,2,none⟩)) (w':=_) (by simp[execOp,go_sem,e1]) ⟨rfl,AnyM.other rfl hC⟩
     ·have e1:ev (.tmp 35)= .pointer (some ⟨t,2,none⟩):=aA 2 35 (by omega) rfl (by decide)
      exact aj.ah (v:= .slice (some ⟨U,0,none⟩) c.es.length c.es.length) (w':=_) (by simp[execOp,go_sem,e1,k2]) ⟨rfl,AnyM.other rfl hC⟩
     ·have e1:ev (.tmp 8)= .int .i64 (x:Int):=aS 8 (by kernel_rfl)
      exact aj.ah (v:= .int .i64 (x:Int)) (w':=_) (by simp[execOp,go_sem,e1]) ⟨rfl,AnyM.other rfl hC⟩
     ·have e1:ev (.tmp 36)= .slice (some ⟨U,0,none⟩) c.es.length c.es.length:=aA 3 36 (by omega) rfl (by decide)
      have e2:ev (.tmp 37)= .int .i64 (x:Int):=aA 4 37 (by omega) rfl (by decide)
      exact aj.ah (v:= .pointer (some ⟨U,x,none⟩)) (w':=_) (by simp[execOp,go_sem,e1,e2,i0,i1']) ⟨rfl,AnyM.other rfl hC⟩
     ·have e1:ev (.tmp 38)= .pointer (some ⟨U,x,none⟩):=aA 5 38 (by omega) rfl (by decide)
      exact aj.ah (v:= .int .i64 za) (w':=_) (by simp[execOp,go_sem,e1,k3]) ⟨rfl,AnyM.other rfl hC⟩
     ·have e1:ev (.tmp 2)= .pointer (some ⟨W.heap.size,0,none⟩):=aS 2 (by kernel_rfl)
      exact aj.ah (v:= .pointer (some ⟨t,1,none⟩)) (w':=_) (by simp[execOp,go_sem,e1,kb]) ⟨rfl,AnyM.other rfl hC⟩
     ·have e1:ev (.tmp 40)= .pointer (some ⟨t,1,none⟩):=aA 7 40 (by omega) rfl (by decide)
      exact aj.ah (v:= .pointer (some ⟨t,1,none⟩)) (w':=_) (by simp[execOp,go_sem,e1]) ⟨rfl,AnyM.other rfl hC⟩
     ·have e1:ev (.tmp 41)= .pointer (some ⟨t,1,none⟩):=aA 8 41 (by omega) rfl (by decide)
      exact aj.ah (v:= .pointer (some ⟨t,2,none⟩)) (w':=_) (by simp[execOp,go_sem,e1]) ⟨rfl,AnyM.other rfl hC⟩
     ·have e1:ev (.tmp 42)= .pointer (some ⟨t,2,none⟩):=aA 9 42 (by omega) rfl (by decide)
      exact aj.ah (v:= .slice (some ⟨U,0,none⟩) c.es.length c.es.length) (w':=_) (by simp[execOp,go_sem,e1,k2]) ⟨rfl,AnyM.other rfl hC⟩
     ·have e1:ev (.tmp 2)= .pointer (some ⟨W.heap.size,0,none⟩):=aS 2 (by kernel_rfl)
      exact aj.ah (v:= .pointer (some ⟨t,1,none⟩)) (w':=_) (by simp[execOp,go_sem,e1,kb]) ⟨rfl,AnyM.other rfl hC⟩
     ·have e1:ev (.tmp 44)= .pointer (some ⟨t,1,none⟩):=aA 11 44 (by omega) rfl (by decide)
      exact aj.ah (v:= .pointer (some ⟨t,1,none⟩)) (w':=_) (by simp[execOp,go_sem,e1]) ⟨rfl,AnyM.other rfl hC⟩
     ·have e1:ev (.tmp 45)= .pointer (some ⟨t,1,none⟩):=aA 12 45 (by omega) rfl (by decide)
      exact aj.ah (v:= .pointer (some ⟨t,1,none⟩)) (w':=_) (by simp[execOp,go_sem,e1]) ⟨rfl,AnyM.other rfl hC⟩
     ·have e1:ev (.tmp 46)= .pointer (some ⟨t,1,none⟩):=aA 13 46 (by omega) rfl (by decide)
      exact aj.ah (v:= .slice (some ⟨L,0,none⟩) c.es.length c.es.length) (w':=_) (by simp[execOp,go_sem,e1,k1]) ⟨rfl,AnyM.other rfl hC⟩
     ·have e1:ev (.tmp 8)= .int .i64 (x:Int):=aS 8 (by kernel_rfl)
      exact aj.ah (v:= .int .i64 (x:Int)) (w':=_) (by simp[execOp,go_sem,e1]) ⟨rfl,AnyM.other rfl hC⟩
     ·have e1:ev (.tmp 47)= .slice (some ⟨L,0,none⟩) c.es.length c.es.length:=aA 14 47 (by omega) rfl (by decide)
      have e2:ev (.tmp 48)= .int .i64 (x:Int):=aA 15 48 (by omega) rfl (by decide)
      exact aj.ah (v:= .pointer (some ⟨L,x,none⟩)) (w':=_) (by simp[execOp,go_sem,e1,e2,i0,i1']) ⟨rfl,AnyM.other rfl hC⟩
     ·have e1:ev (.tmp 49)= .pointer (some ⟨L,x,none⟩):=aA 16 49 (by omega) rfl (by decide)
      exact aj.ah (v:= .int .i64 (y:Int)) (w':=_) (by simp[execOp,go_sem,e1,k4]) ⟨rfl,AnyM.other rfl hC⟩
     ·have e1:ev (.tmp 43)= .slice (some ⟨U,0,none⟩) c.es.length c.es.length:=aA 10 43 (by omega) rfl (by decide)
      have e2:ev (.tmp 50)= .int .i64 (y:Int):=aA 17 50 (by omega) rfl (by decide)
      exact aj.ah (v:= .pointer (some ⟨U,y,none⟩)) (w':=_) (by simp[execOp,go_sem,e1,e2,j0,j1]) ⟨rfl,AnyM.other rfl hC⟩
     ·have e1:ev (.tmp 51)= .pointer (some ⟨U,y,none⟩):=aA 18 51 (by omega) rfl (by decide)
      exact aj.ah (v:= .int .i64 zb) (w':=_) (by simp[execOp,go_sem,e1,k5]) ⟨rfl,AnyM.other rfl hC⟩
     ·have e1:ev (.tmp 39)= .int .i64 za:=aA 6 39 (by omega) rfl (by decide)
      have e2:ev (.tmp 52)= .int .i64 zb:=aA 19 52 (by omega) rfl (by decide)
      exact aj.ah (v:= .int .i64 (za*zb)) (w':=_) (by simp[execOp,go_sem,e1,e2,hwr]) ⟨rfl,AnyM.other rfl hC⟩
     ·have e1:ev (.tmp 36)= .slice (some ⟨U,0,none⟩) c.es.length c.es.length:=aA 3 36 (by omega) rfl (by decide)
      have e2:ev (.tmp 37)= .int .i64 (x:Int):=aA 4 37 (by omega) rfl (by decide)
      exact aj.ah (v:= .pointer (some ⟨U,x,none⟩)) (w':=_) (by simp[execOp,go_sem,e1,e2,i0,i1']) ⟨rfl,AnyM.other rfl hC⟩
     ·have e1:ev (.tmp 54)= .pointer (some ⟨U,x,none⟩):=aA 21 54 (by omega) rfl (by decide)
      have e2:ev (.tmp 53)= .int .i64 (za*zb):=aA 20 53 (by omega) rfl (by decide)
      refine aj.bF (w':=C.drew.setCell ⟨U,x,none⟩ (.int .i64 (za*zb))) (by simp[execOp,go_sem,e1,e2,k3,k6]) ⟨rfl,?_⟩
      simp[AnyM.bG,aj.bR]
    ·intro Ls V hall hC
     unfold AnyM.bG at hC
     rw[if_pos (hall 22 (by decide))] at hC
     subst hC
     have A6:aC (fun b=>b=L∨b=U) C (C.drew.setCell ⟨U,x,none⟩ (.int .i64 (za*zb))):=(aC.refl _ _).drew.setCell (b:=U) (i:=x) (.inr rfl) _
     have iU:aq (C.drew.setCell ⟨U,x,none⟩ (.int .i64 (za*zb))) U (A2.set x (za*zb)):=(show aq C.drew U A2 from fX.out).set x _
     have iL:aq (C.drew.setCell ⟨U,x,none⟩ (.int .i64 (za*zb))) L A1:=(show aq C.drew L A1 from ng.out).aK n4 _
     have kb':=(show Boxed (C.drew.setCell ⟨U,x,none⟩ (.int .i64 (za*zb))) W.heap.size 147 (.pointer (some ⟨t,1,none⟩)) from(A6.block _ bC.lt (by omega)).trans bC).cell
     have tX:=(A6.block _ (lt_of_block tC) (by omega)).trans tC
     have Qq:(C.drew.setCell ⟨U,x,none⟩ (.int .i64 (za*zb))).cell? ⟨t,1,none⟩=some (.slice (some ⟨L,0,none⟩) c.es.length c.es.length):=by simp[World.cell?,tX]
     clear kb k1 k2 k3 k4 k5 k6 hall tX
     generalize C.drew.setCell ⟨U,x,none⟩ (.int .i64 (za*zb))=X1 at A6 iU iL kb' Qq ⊢
     obtain⟨zl,Xu⟩:∃zl,A1[x]? =some zl:=⟨_,aac (by have:=L8.out;omega)⟩
     have k4':X1.cell? ⟨L,x,none⟩=some (.int .i64 zl):=iL.cell Xu
     have k6':X1.frozen? ⟨L,x,none⟩=false:=iL.free x
     have oQ:Hid (KeepsFrom V1.heap.size C (X1.setCell ⟨L,x,none⟩ (.int .i64 (-1)))∧bE W0.heap.size (fun b=>b=L∨b=U) C (X1.setCell ⟨L,x,none⟩ (.int .i64 (-1)))∧∃B1 B2,aq (X1.setCell ⟨L,x,none⟩ (.int .i64 (-1))) L B1∧aq (X1.setCell ⟨L,x,none⟩ (.int .i64 (-1))) U B2∧fW (st.like,st.turn) (ws.drop (ws.length-(pre++[x0]).length))=some (B1,B2)):=by
      have hw2:=A6.setCell (b:=L) (i:=x) (.inl rfl) (.int .i64 (-1))
      exact⟨fQ hw2 (fun b hb=>by rcases hb with rfl|rfl<;>omega),dQ (n₀:=W0.heap.size) hw2 (by omega) (fun b hb=>by rcases hb with rfl|rfl<;>omega),_,_,iL.set x _,iU.aK (aaR n4) _,HPX.out⟩
     clear A6 iU iL Xu
     simp only[aj.canon,aj.dst,Array.size,aar,aaS]
     simp[Act.put]
     gi_wp2
     obtain⟨f1,f2,f3⟩:=oQ.out
     exact⟨f1,f2,f3,ot.out.trans f2⟩
   case done=>
    rintro Dd X hD ⟨⟨A1,A2,i1,i2,hbk⟩,tR⟩ hK
    rw[jo,acP,List.drop_zero,xU.out] at hbk
    obtain rfl:r=(A1,A2):=aak hbk
    have sK:=uj xU.out
    dsimp only at sK
    rw[jr.out.ll,jr.out.lu] at sK
    obtain⟨z,hz⟩:∃z,A2[e]? =some z:=⟨_,aac (by omega)⟩
    have VC:V1.heap.size≤X.heap.size:=tR.1.size
    have c0:=(tR.boxed (show Boxed V1 W.heap.size 147 (.pointer (some ⟨t,1,none⟩)) from(hB1.block _ jW.out.lt).trans jW.out) (by omega)).cell
    have tX:=tR.2 _ _ hT.blk rfl (by omega)
    have c2:X.cell? ⟨t,2,none⟩=some (.slice (some ⟨U,0,none⟩) c.es.length c.es.length):=by simp[World.cell?,tX]
    have c3:X.cell? ⟨U,e,none⟩=some (.int .i64 z):=i2.cell hz
    have e0:(0:Int)≤(e:Int):=by omega
    have e1:(e:Int)<(c.es.length:Int):=by omega
    have VH:Below W.heap.size W V1:=aY.out.trans (hB1.mono (by omega))
    have hY:bE W0.heap.size (fun b=>b=L∨b=U) X (X.putObj Dd (.deferred none)):=bE.put (A:=V1) (by omega) hD hK rfl rfl
    have VG:bE W0.heap.size (fun b=>b=L∨b=U) W (X.putObj Dd (.deferred none)):=(((bE.refl _ _ _).grow VH (by omega)).trans tR).trans hY
    have WA:Hid (rI c p t W0 O st L U Z vp vw W (A1,A2) e (.returned (.int .i64 z)) (X.putObj Dd (.deferred none))):=by
     have hsz:(X.putObj Dd (.deferred none)).heap.size=X.heap.size:=by simp[World.putObj]
     refine⟨⟨z,hz,rfl⟩,⟨VG,by omega⟩,jr.out.ZH (jr.out.aI.trans VG.1) (by omega) (fun b o ho hc n1 n2=>VG.2 b o ho hc (fun q=>q.elim n1 n2)) ?_ ?_ sK.1 sK.2⟩
     ·exact(aby (by omega)).trans i1
     ·exact(aby (by omega)).trans i2
    have HK:=Nu.hid hK
    clear i1 i2 tR tX hY VG hK sK hbk
    go_wp2
    refine⟨by simp,.inl ⟨_,_,rfl,run_takeDeferred HK.out,?_⟩⟩
    refine⟨_,results_tmp rfl _ _ _,?_⟩
    exact WA.out
   case stop=>
    rintro Dd c pre W _ _ hx _
    exact hx.elim
  ·have hyb:(y== -1)=false:=by simp only[beq_eq_false_iff_ne,ne_eq];exact hy
   have fB:Hid (ws=(dn++[a])++rs'∧Wy st.like rs' y):=by
    obtain rfl:z=a:=by omega
    refine⟨?_,Xx⟩
    rw[Qz,QM,aaH]
    rfl
   have q9:dn.length≤c.es.length:=by omega
   have vW:Hid (dn.length<ws.length):=by show _<_;rw[hl,QM,aar];omega
   have Vy:=hbr.size
   clear hown hbr hat hT A4 Xx Qz QM hy hy1 ha1 ha2 hz hl
   go_wp2_with (at_builtin;refine EJ rfl _ _ rfl wr W1.heap.size (.slice ao dn.length cap) (dn.map fun z:Nat=>(z:Int)) (a:Int) yO.out Vy (by rw[aa3];omega) rfl rfl ?_;refine aaB ?_)
   refine Nu.hid ?_
   intro v' w5 KT hg5 afa hb5
   have z0:=(show Boxed w5 W.heap.size 147 (.pointer (some ⟨t,1,none⟩)) from((vY.out.trans hb5).block _ jW.out.lt).trans jW.out).cell
   have hT5:=eN.out.later (vY.out.trans hb5)
   have z1:=hT5.cells.2.1
   have z2:w5.cell? ⟨L,a,none⟩=some (.int .i64 y):=hT5.like.cell Xd.out
   have WJ:=Nu.hid KT
   have jX:=Nu.hid (vY.out.trans hb5)
   obtain⟨ao5,aly,rfl,-,-⟩:=KT.form
   clear KT hg5 afa hb5 hT5
   go_wp2_with fail
   go_roundw
   case rel=>
    refine⟨dn++[a],rs',y,rfl,fB.out.1,fB.out.2,?_,jX.out⟩
    rw[abl]
    exact WJ.out
   case measure=>
    have:=vW.out
    simp[sLen]
    omega
end
end
end Go.Proofs.YtdjmnpmdmjclhabGreat
