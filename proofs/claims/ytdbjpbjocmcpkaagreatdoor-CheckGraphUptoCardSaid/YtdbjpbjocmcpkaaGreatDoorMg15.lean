import Derived.Test.YtdbjpbjocmcpkaaGreatDoorMg14
import Derived.Deep.LoopGhost
set_option maxHeartbeats 4000000
set_option maxRecDepth 100000
namespace Go.Proofs.YtdbjpbjocmcpkaaGreatDoor
section
open Go.Proofs.Tryz
open Go.RowKit
def cL (w:World) (v:Value) (n:Nat) (es:List (Int×Int)):Prop:=(v= .pointer none/\n=0/\es=[])\/∃B p,v= .pointer (some ⟨p,0,none⟩)/\Si.Val n es/\pQ w B p n es
theorem cL.later {w w':World} {v:Value} {n:Nat} {es:List (Int×Int)} (h:cL w v n es) (hb:Below w.heap.size w w'):cL w' v n es:=by
 rcases h with h|⟨B,p,h1,h2,h3⟩
 .exact .inl h
 .exact .inr ⟨B,p,h1,h2,h3.later hb⟩
theorem cL.bounds {w:World} {v:Value} {n:Nat} {es:List (Int×Int)} (h:cL w v n es):n<=1048576/\es.length<=4194304:=by
 rcases h with ⟨_,rfl,rfl⟩|⟨B,p,_,h2,_⟩
 .simp
 .have:=h2.hi
  have:=h2.few;omega
theorem N7 (v:Value) (n:Nat) (es:List (Int×Int)) (w:World) (h:cL w v n es):Calls prog 123 #[v] w fun e w'=>e= .returned (.int .i64 (n:Int))/\w'=w:=by
 rcases h with ⟨rfl,rfl,rfl⟩|⟨B,p,rfl,hv,gd,gs,gh,gp,gt,h⟩
 .go_enter func123,ntmps123
  go_wp2;go_ret;exact⟨rfl,rfl⟩
 .have c0:=h.blk.c0
  clear h;go_enter func123,ntmps123;go_wp2;go_ret;exact⟨rfl,rfl⟩
theorem N8 (v:Value) (n:Nat) (es:List (Int×Int)) (w:World) (h:cL w v n es):Calls prog 177 #[v] w fun e w'=>e= .returned (.int .i64 (es.length:Int))/\w'=w:=by
 have hb:=h.bounds;rcases h with ⟨rfl,rfl,rfl⟩|⟨B,p,rfl,hv,gd,gs,gh,gp,gt,h⟩
 .go_enter func177,ntmps177
  go_wp2;go_ret;exact⟨rfl,rfl⟩
 .have c4:=h.blk.c4
  have DJ:(2*(es.length:Int)).tdiv 2=es.length:=by rw[abK (by omega)];omega
  clear h;go_enter func177,ntmps177;go_wp2;go_ret;exact⟨rfl,rfl⟩
theorem qK (v:Value) (n:Nat) (es:List (Int×Int)) (x:Int) (w:World) (h:cL w v n es):Calls prog 261 #[v,.int .i64 x] w fun e w'=>e= .returned (.bool (decide (0<=x/\x<(n:Int))))/\w'=w:=by
 have HN:=ζ (N7 v n es w h);clear h;by_cases h0:0<=x
 .have hd:decide (0<=x/\x<(n:Int))=decide (x<(n:Int)):=by simp[h0]
  rw[hd];go_enter func261,ntmps261;go_wp2_with (go_at_call 123;refine HN.out.mono ?_;rintro e w1 ⟨rfl,rfl⟩);go_ret;exact⟨rfl,rfl⟩
 .have hd:decide (0<=x/\x<(n:Int))=false:=by simp[h0]
  rw[hd];go_enter func261,ntmps261;go_wp2_with (go_at_call 123;refine HN.out.mono ?_;rintro e w1 ⟨rfl,rfl⟩);go_ret;exact⟨rfl,rfl⟩
theorem oO (v:Value) (n:Nat) (es:List (Int×Int)) (x:Int) (w:World) (h:cL w v n es):Calls prog 236 #[v,.int .i64 x] w fun e w'=>e= .returned (.bool (decide (0<=x/\x<2*(es.length:Int))))/\w'=w:=by
 have HN:=ζ (N8 v n es w h);have hb:=h.bounds;clear h;by_cases h0:0<=x
 .have hd:decide (0<=x/\x<2*(es.length:Int))=decide (x<2*(es.length:Int)):=by simp[h0]
  rw[hd];go_enter func236,ntmps236;go_wp2_with (go_at_call 177;refine HN.out.mono ?_;rintro e w1 ⟨rfl,rfl⟩);go_ret;exact⟨rfl,rfl⟩
 .have hd:decide (0<=x/\x<2*(es.length:Int))=false:=by simp[h0]
  rw[hd];go_enter func236,ntmps236;go_wp2_with (go_at_call 177;refine HN.out.mono ?_;rintro e w1 ⟨rfl,rfl⟩);go_ret;exact⟨rfl,rfl⟩
theorem Fq (v:Value) (n:Nat) (es:List (Int×Int)) (x:Int) (w:World) (h:cL w v n es):Calls prog 238 #[v,.int .i64 x] w fun e w'=>e= .returned (.int .i64 (Cs.toI es x))/\w'=w:=by
 have HV:=ζ (oO v n es x w h);by_cases hx:0<=x/\x<2*(es.length:Int)
 .rw[decide_eq_true hx] at HV
  rcases h with ⟨rfl,rfl,rfl⟩|⟨B,p,rfl,hv,gd,gs,gh,gp,gt,h⟩
  .simp at hx;omega
  .obtain⟨u,rfl⟩:∃u:Nat,x=(u:Int):=⟨x.toNat,by omega⟩
   obtain⟨x0,x1⟩:=hx;have c0:=h.blk.c4;have d0:=h.goes u (by omega);rw[Cs.toI_in (by omega)];clear h hv;go_enter func238,ntmps238;go_wp2_with (go_at_call 236;refine HV.out.mono ?_;rintro e w1 ⟨rfl,rfl⟩);go_ret;exact⟨rfl,rfl⟩
 .rw[decide_eq_false hx] at HV
  rw[Cs.toI_no hx];clear h hx;go_enter func238,ntmps238;go_wp2_with (go_at_call 236;refine HV.out.mono ?_;rintro e w1 ⟨rfl,rfl⟩);go_ret;exact⟨rfl,rfl⟩
theorem EW (v:Value) (n:Nat) (es:List (Int×Int)) (x:Int) (w:World) (h:cL w v n es):Calls prog 237 #[v,.int .i64 x] w fun e w'=>e= .returned (.int .i64 (Cs.PG es x))/\w'=w:=by
 have HV:=ζ (oO v n es x w h);by_cases hx:0<=x/\x<2*(es.length:Int)
 .rw[decide_eq_true hx] at HV
  rcases h with ⟨rfl,rfl,rfl⟩|⟨B,p,rfl,hv,gd,gs,gh,gp,gt,h⟩
  .simp at hx;omega
  .obtain⟨u,rfl⟩:∃u:Nat,x=(u:Int):=⟨x.toNat,by omega⟩
   obtain⟨x0,x1⟩:=hx;have ht:=Cs.eM (i:=u) (m:=es.length) (by omega);have c0:=h.blk.c4;have bQ:=hv.few;have Ri:=Cs.kS u (by omega);have Rs:(0:Int)<=(Cs.twin u:Int):=by omega
   have vV:(Cs.twin u:Int)<2*(es.length:Int):=by omega
   have d0:=h.goes (Cs.twin u) ht;rw[Cs.oV (by omega)];rw[Cs.AB] at d0;clear h hv;go_enter func237,ntmps237;go_wp2_with (go_at_call 236;refine HV.out.mono ?_;rintro e w1 ⟨rfl,rfl⟩);go_ret;exact⟨rfl,rfl⟩
 .rw[decide_eq_false hx] at HV
  rw[Cs.Vf hx];clear h hx;go_enter func237,ntmps237;go_wp2_with (go_at_call 236;refine HV.out.mono ?_;rintro e w1 ⟨rfl,rfl⟩);go_ret;exact⟨rfl,rfl⟩
def Qh (n:Nat) (es:List (Int×Int)) (x:Int) (w0 w:World) (e:Ending) (w':World):Prop:=
 ∃ao cap,e= .returned (.slice ao (Cs.kg n es x).length cap)/\aU w0 ao (Cs.kg n es x)/\∃k,w'=w.drewN k
theorem F9 (v:Value) (n:Nat) (es:List (Int×Int)) (x:Int) (w0 w:World) (h0:cL w0 v n es) (hb:Below w0.heap.size w0 w):Calls prog 270 #[v,.int .i64 x] w (Qh n es x w0 w):=by
 have HV:=ζ (qK v n es x w (h0.later hb));by_cases hx:0<=x/\x<(n:Int)
 .rw[decide_eq_true hx] at HV
  rcases h0 with ⟨rfl,rfl,rfl⟩|⟨B,p,rfl,hv,gd,gs,gh,gp,gt,h0⟩
  .omega
  .obtain⟨u,rfl⟩:∃u:Nat,x=(u:Int):=⟨x.toNat,by omega⟩
   obtain⟨x0,x1⟩:=hx;have oI:u<n:=by omega
   have h:=h0.same hb.size fun k _ h2=>hb.block k h2
   have c0:=h.blk.c0;have c1:=h.blk.c1;have c2:=h.blk.c2;have d0:=h.gG u oI;have d1:=h.start u oI;have hlt:∀i,i<2*es.length->Cs.fr es i<n:=fun i hi=>(Cs.dX hv hi).1
   have hle:=Cs.AH hlt oI;have bQ:=hv.few;have BP:=h0.half;have hcell:∀(j:Nat) (z:Int),(Cs.kg n es u)[j]? =some z->w0.cell? ⟨gh,Cs.st es (2*es.length) u+j,none⟩=some (.int .i64 z):=fun j z hj=>by
    unfold Cs.kg at hj;rw[aaP,Cs.nH oI] at hj;obtain⟨i,hi,rfl⟩:=abA.1 hj;obtain⟨h1,h2,h3⟩:=Cs.oB hi;have:=BP i h1;unfold Cs.pos at this;rw[h2,h3] at this;exact this
   have dW:(Cs.kg n es u).length=(Cs.out es u (2*es.length)).length:=by rw[Cs.OS,Cs.nH oI]
   have HC:=ζ hcell;have om:=ζ dW;obtain⟨s,hs⟩:∃s,Cs.st es (2*es.length) u=s:=⟨_,rfl⟩;obtain⟨d,hd⟩:∃d,(Cs.out es u (2*es.length)).length=d:=⟨_,rfl⟩;rw[hs] at d1 hle HC;rw[hd] at d0 hle om;have s0:(0:Int)<=(s:Int):=by omega
   have s1:(s:Int)<=2*(es.length:Int):=by omega
   have s2:(0:Int)<=(d:Int):=by omega
   have s3:(d:Int)<=2*(es.length:Int)-(s:Int):=by omega
   clear h h0 hb hv hlt BP hcell dW hs hd;go_enter func270,ntmps270;go_wp2_with (go_at_call 261;refine HV.out.mono ?_;rintro e w1 ⟨rfl,rfl⟩);go_quiet (fail);obtain⟨A,hA⟩:∃A:Option Addr,(if 2*es.length=s then some ⟨gh,0,none⟩ else some ⟨gh,s,none⟩)=A:=⟨_,rfl⟩;rw[hA];have HA:=ζ hA;clear hA;go_wp2;go_ret;refine⟨A,_,by rw[om.out];rfl,fun j z hj=> ?_,nq,rfl⟩;have hjl:=(aah.1 hj).1;rw[om.out] at hjl;have:=HA.out;rw[if_neg (by omega)] at this;exact⟨gh,s,this.symm,HC.out j z hj⟩
 .rw[decide_eq_false hx] at HV
  have ho:Cs.kg n es x=[]:=by unfold Cs.kg;rw[Cs.Iw hx];rfl
  have HO:=ζ ho;clear h0 hb hx ho;go_enter func270,ntmps270;go_wp2_with (go_at_call 261;refine HV.out.mono ?_;rintro e w1 ⟨rfl,rfl⟩);go_ret;refine⟨none,0,by rw[HO.out];rfl,by rw[HO.out];exact aU.nil _ _,0,rfl⟩
end
section
open Go.Proofs.Tryz
open Go.RowKit
theorem mJ (v:Value) (n:Nat) (es:List (Int×Int)) (x:Int) (w:World) (h:cL w v n es):Calls prog 209 #[v,.int .i64 x] w fun e w'=>e= .returned (.int .i64 ((Cs.yF n es x).length:Int))/\w'=w:=by
 have HV:=ζ (qK v n es x w h);by_cases hx:0<=x/\x<(n:Int)
 .rw[decide_eq_true hx] at HV
  rcases h with ⟨rfl,rfl,rfl⟩|⟨B,p,rfl,hv,gd,gs,gh,gp,gt,h⟩
  .omega
  .obtain⟨u,rfl⟩:∃u:Nat,x=(u:Int):=⟨x.toNat,by omega⟩
   obtain⟨x0,x1⟩:=hx;have c0:=h.blk.c0;have d0:=h.gG u (by omega);rw[Cs.nH (by omega)];clear h hv;go_enter func209,ntmps209;go_wp2_with (go_at_call 261;refine HV.out.mono ?_;rintro e w1 ⟨rfl,rfl⟩);go_ret;exact⟨rfl,rfl⟩
 .rw[decide_eq_false hx] at HV
  rw[Cs.Iw hx];clear h hx;go_enter func209,ntmps209;go_wp2_with (go_at_call 261;refine HV.out.mono ?_;rintro e w1 ⟨rfl,rfl⟩);go_ret;exact⟨rfl,rfl⟩
end
section
namespace Ku
theorem jZ.follow {S:Sys} {o t:List Nat} (ho:jZ S o) (ht:Tr S t) {a:Nat} (h0:t[0]? =some a) (ha:a∈o):∀(i x:Nat),t[i]? =some x->x∈o
 |0,x,hx=>by rw[h0] at hx;cases hx;exact ha
 |i+1,x,hx=>by
  have hi:=(aah.1 hx).1;obtain⟨y,hy⟩:∃y,t[i]? =some y:=⟨_,aac (by omega)⟩;have hyo:=ho.follow ht h0 ha i y hy;obtain⟨j,hj,ej⟩:=aaT.1 hyo;have gj:o[j]? =some y:=by rw[<-ej];exact aac hj
  have hn:=ht i y x hy hx;by_cases hl:j+1<o.length
  .obtain⟨z,hz⟩:∃z,o[j+1]? =some z:=⟨_,aac hl⟩
   have:=ho.tr j y z gj hz;rw[hn] at this;rw[aaG this];exact aai hz
  .have:=ho.sD y (by rw[show o.length-1=j by omega];exact gj)
   rw[hn] at this;cases this
theorem jZ.nodup {S:Sys} {c:List Nat} (o:jZ S c):c.Nodup:=o.tr.nodup fun i hi e=>by
 have hp:=cN o.ne;obtain⟨a,ha⟩:∃a,c[0]? =some a:=⟨_,aac hp⟩;rw[ha] at e;obtain⟨b,hb⟩:∃b,c[i-1]? =some b:=⟨_,aac (by have:=(aah.1 e).1;omega)⟩;have h1:=o.tr (i-1) b a hb (by rw[show i-1+1=i by omega];exact e);have h2:=S.rev b a h1;rw[o.fst a ha] at h2;cases h2
section
variable {S:Gs}
theorem P7 {h0 x:Nat} (hh:h0<S.M) (hx:(all S.toSys (S.tw h0))[(all S.toSys (S.tw h0)).length-1]? =some x) (he:S.nx x=none):
 S.tw x<S.M/\jZ S.toSys (all S.toSys (S.tw x))/\h0∈all S.toSys (S.tw x):=by
 have pW:=S.tl h0 hh;obtain⟨t',_,lt',_,_⟩:=bJ (S:=S.toSys) pW;have hxM:=lt' x (aai hx);have Xy:=S.tl x hxM;obtain⟨_,_,lt,hd,_⟩:=bJ (S:=S.toSys) hh;have DT:h0∈all S.toSys h0:=ads hd;have hend:∀a,(all S.toSys h0)[(all S.toSys h0).length-1]? =some a->S.nx a=none:=by
  rcases ij (S:=S.toSys) hh with ⟨c,hc0⟩|⟨_,_,h⟩
  .exfalso
   refine t'.jR (fun a ha=> ?_) c.rv (aai (all_zero pW)) (eJ.2 (by rw[S.tt];exact aai hc0));rw[hx] at ha;cases ha;exact he
  .exact h
 obtain⟨l,o,hl0,_⟩:=uL hh hend;have hr:S.tw h0∈rv S.toSys l:=eJ.2 (by rw[S.tt];exact hl0);have Xp:=o.rv.follow t' (all_zero pW) hr _ x hx;have hxl:=eJ.1 Xp;have hO:jZ S.toSys (all S.toSys (S.tw x)):=by
  rcases ij (S:=S.toSys) Xy with ⟨c,hc0⟩|⟨t,h0',h⟩
  .exfalso
   have hp:=cN c.ne;obtain⟨p,hp'⟩:∃p,(all S.toSys (S.tw x))[(all S.toSys (S.tw x)).length-1]? =some p:=⟨_,aac (by omega)⟩;have h1:=S.rev p _ (c.OE p _ hp' hc0);rw[S.tt,he] at h1;cases h1
  .exact⟨t,fun e=>by rw[e] at h0';simp at h0',fun a ha=>by rw[h0'] at ha;cases ha;rw[S.tt];exact he,h⟩
 refine⟨Xy,hO,?_⟩;rw[hO.unique o (aai (all_zero Xy)) hxl];exact hl0
theorem MN {h0 x:Nat} (hh:h0<S.M) (hx:(all S.toSys (S.tw h0))[(all S.toSys (S.tw h0)).length-1]? =some x) (he:S.nx x=some (S.tw h0)):dN S.toSys (all S.toSys h0):=by
 have pW:=S.tl h0 hh;have c':dN S.toSys (all S.toSys (S.tw h0)):=by
  rcases ij (S:=S.toSys) pW with ⟨c,_⟩|⟨_,_,h⟩
  .exact c
  .have:=h x hx
   rw[he] at this;cases this
 obtain⟨t,_,_,_,_⟩:=bJ (S:=S.toSys) hh;rcases ij (S:=S.toSys) hh with ⟨c,_⟩|⟨t,h0',h⟩
 .exact c
 .exact(t.jR h c'.rv (aai h0') (eJ.2 (aai (all_zero pW)))).elim
theorem PW {T l:List Nat} (t:Tr S.toSys T) (hn:T≠[]) (lt:∀x∈T,x<S.M) (c:Cn S l) (e:vs S l=written (vs S T)):l=T\/l=rv S.toSys T:=by
 unfold Ku.written at e
 split at e
 .refine .inr (Ng c.tr t.rv c.lt (fun x hx=> ?_) (by rw[e,mQ t hn]))
  have:=S.tl _ (lt _ (eJ.1 hx));rw[S.tt] at this;exact this
 .exact .inl (Ng c.tr t c.lt lt e)
end
section
variable {es:List (Int×Int)} {n:Int} {hv:Si.Val n es}
theorem YP {T:List Nat} {e:Nat}:By (rv (gs es hv).toSys T) e↔By T e:=by
 constructor
 .rintro⟨x,hx,h⟩
  exact⟨_,eJ.1 hx,by show Cs.twin x/2=e;rw[gU];exact h⟩
 .rintro⟨x,hx,h⟩
  exact⟨Cs.twin x,eJ.2 (by show Cs.twin (Cs.twin x)∈T;rw[lg];exact hx),by rw[gU];exact h⟩
theorem YK {e e':Nat} (hv:Si.Val n es) (h:e<=e') (he':e'<es.length) {x:Nat} (hx:x/2=e'):Cs.fr es (2*e)<=Cs.fr es x:=by
 obtain⟨p,hp⟩:∃p,es[e]? =some p:=⟨_,aac (by omega)⟩;obtain⟨q,hq⟩:∃q,es[e']? =some q:=⟨_,aac he'⟩;have sB:=hv.each _ p hp;have zH:=hv.each _ q hq;unfold Si.ok at sB zH;have hle:p.1<=q.1:=by
  by_cases e1:e=e'
  .subst e1
   rw[hp] at hq;cases hq;exact acE _
  .have:=hv.mono e' e p q (by omega) hp hq
   unfold Si.lt at this;omega
 have f1:=(Cs.cY hp).1;have f2:=(Cs.cY hq).1;have f3:=(Cs.gw hq).1;rcases abF x with h2|h2
 .rw[show x=2*e' by omega]
  omega
 .rw[show x=2*e'+1 by omega]
  omega
theorem E6 {e b:Nat} (hf:First es hv e) (hb:b<2*es.length) (hin:∃x∈all (gs es hv).toSys b,x/2=e) (hk:jZ (gs es hv).toSys (all (gs es hv).toSys b)\/(b=2*e/\dN (gs es hv).toSys (all (gs es hv).toSys b))):
 vs (gs es hv) (ch es hv e)=written (vs (gs es hv) (all (gs es hv).toSys b))/\∀e',By (ch es hv e) e'↔By (all (gs es hv).toSys b) e':=by
 obtain⟨T,hT⟩:∃T,T=all (gs es hv).toSys b:=⟨_,rfl⟩;obtain⟨t,nd,lt,_,_⟩:=bJ (S:=(gs es hv).toSys) hb;rw[<-hT] at hin hk t nd lt ⊢;have key:∀l,Cn (gs es hv) l->vs (gs es hv) l=written (vs (gs es hv) T)->T≠[]->vs (gs es hv) (ch es hv e)=written (vs (gs es hv) T)/\∀e',By (ch es hv e) e'↔By T e':=fun l c e1 hn=>by
  have hby:∀e',By l e'↔By T e':=fun e'=>by
   rcases PW t hn lt c e1 with rfl|rfl
   .exact Iff.rfl
   .exact YP
  obtain⟨x,hx,jB⟩:=(hby e).2 hin;rw[qV c hx jB];exact⟨e1,hby⟩
 rcases hk with o|⟨hb2,c⟩
 .obtain⟨l,cn,e1,_⟩:=o.written lt
  exact key l cn e1 o.ne
 .have hm:∀x∈T,at_ (vs (gs es hv) T) 0<=(gs es hv).fr x:=fun x hx=>by
   have h0:T[0]? =some b:=by rw[hT];exact all_zero hb
   rw[kT h0,hb2];obtain⟨k,hk,hmin⟩:=GD (fun i=>at_ (vs (gs es hv) T) i) (cN c.ne);obtain⟨l,cl,F7,ml,sub,_⟩:=c.turn lt hk hmin;obtain⟨l',cn,_,hall⟩:=cl.written F7 ml;have hby:∀y∈T,By l' (y/2):=fun y hy=>by
    rcases hall y (sub y hy) with h|h
    .exact⟨y,h,rfl⟩
    .exact⟨_,h,gU y⟩
   obtain⟨y,hy,zJ⟩:=hin;obtain⟨z,hz,hze⟩:=hby y hy;have e1:=qV (hv:=hv) (e:=e) cn hz (by rw[hze,zJ]);have:=hf (x/2) (by rw[e1];exact hby x hx);have hxl:x<2*es.length:=lt x hx;exact YK hv this (by omega) rfl
  obtain⟨l,cn,e1,_⟩:=c.written lt hm;exact key l cn e1 c.ne
theorem JW {k e':Nat} (hk:k<es.length) (hf:First es hv k) (h:By (ch es hv k) e'):¬ ∃l∈jF es hv k,By l e':=by
 rintro⟨l,hl,hb⟩;obtain⟨e,h1,h2,rfl⟩:=nM.1 hl;have a1:=Cy hk h;have a2:=Cy (by omega) hb;have:=hf e (by rw[<-a1,a2];exact(xR (by omega)).2);omega
theorem Ht {S:Sys} {T:List Nat} (t:Tr S T) (nd:T.Nodup) (htw:∀x y,x/2=y/2->x=y\/y=S.tw x) {i j x y:Nat} (hij:i<j) (hx:T[i]? =some x) (hy:T[j]? =some y):x/2≠y/2:=by
 intro e;rcases htw x y e with rfl|h
 .obtain⟨a1,a2⟩:=aah.1 hx
  obtain⟨b1,b2⟩:=aah.1 hy;have:=(List.getElem_inj nd).1 (a2.trans b2.symm);omega
 .exact t.qy (aai hx) (aai hy) h
theorem Px (x y:Nat) (e:x/2=y/2):x=y\/y=Cs.twin x:=by
 unfold Cs.twin
 split<;>omega
end
end Ku
end
section
open Go.Proofs.Tryz
open Go.RowKit
def Cs.rV (n:Nat) (es:List (Int×Int)) (x:Int):Int:=(Cs.kg n es x).getD 0 (-1)
theorem Mu (v:Value) (n:Nat) (es:List (Int×Int)) (x:Int) (w:World) (h:cL w v n es):Calls prog 234 #[v,.int .i64 x] w fun e w'=>e= .returned (.int .i64 (Cs.rV n es x))/\∃k,w'=w.drewN k:=by
 have HL:=ζ (F9 v n es x w w h (aae _ _));clear h;unfold Cs.rV;cases hL:Cs.kg n es x with
 |nil=>
  have nu:Hid (Calls prog 270 #[v,.int .i64 x] w fun e w'=>∃ao cap,e= .returned (.slice ao 0 cap)/\∃k,w'=w.drewN k):=HL.out.mono (by
   rintro e w' ⟨ao,cap,h1,_,h3⟩;rw[hL] at h1;exact⟨ao,cap,h1,h3⟩)
  clear HL hL;go_enter func234,ntmps234;go_wp2_with (go_at_call 270;refine nu.out.mono ?_;rintro e w1 ⟨ao,cap,rfl,k,rfl⟩);go_ret;exact⟨rfl,k,rfl⟩
 |cons z L=>
  have nu:Hid (Calls prog 270 #[v,.int .i64 x] w fun e w'=>∃b o cap k,e= .returned (.slice (some ⟨b,o,none⟩) (L.length+1) cap)/\w.cell? ⟨b,o,none⟩=some (.int .i64 z)/\w'=w.drewN k):=HL.out.mono (by
   rintro e w' ⟨ao,cap,h1,h2,k,h3⟩;rw[hL] at h1 h2;obtain⟨b,o,rfl,h4⟩:=h2 0 z rfl;exact⟨b,o,cap,k,h1,h4,h3⟩)
  have hne:((L.length:Int)+1==0)=false:=by simp;omega
  clear HL hL;go_enter func234,ntmps234;go_wp2_with (go_at_call 270;refine nu.out.mono ?_;rintro e w1 ⟨b,o,cap,k,rfl,hc,rfl⟩);go_ret;exact⟨rfl,k,rfl⟩
def Cs.mK (n:Nat) (es:List (Int×Int)) (x:Int):Int:=
 if 0<=x/\x<2*(es.length:Int) then (Cs.kg n es (Cs.fr es x.toNat)).getD ((Cs.out es (Cs.fr es x.toNat) x.toNat).length+1) (-1) else -1
theorem Cs.MP {n:Nat} {es:List (Int×Int)} {x:Int} (h:¬(0<=x/\x<2*(es.length:Int))):Cs.mK n es x= -1:=by unfold Cs.mK;rw[if_neg h]
theorem MO (v:Value) (n:Nat) (es:List (Int×Int)) (x:Int) (w:World) (h:cL w v n es):Calls prog 182 #[v,.int .i64 x] w fun e w'=>e= .returned (.int .i64 (Cs.mK n es x))/\∃k,w'=w.drewN k:=by
 have HV:=ζ (oO v n es x w h);have HF:=ζ (EW v n es x w h);by_cases hx:0<=x/\x<2*(es.length:Int)
 .rw[decide_eq_true hx] at HV
  rcases h with ⟨rfl,rfl,rfl⟩|⟨B,p,rfl,hv,gd,gs,gh,gp,gt,h⟩
  .simp at hx;omega
  .obtain⟨i,rfl⟩:∃u:Nat,x=(u:Int):=⟨x.toNat,by omega⟩
   have hi:i<2*es.length:=by omega
   have hlt:∀i,i<2*es.length->Cs.fr es i<n:=fun i hi=>(Cs.dX hv hi).1
   have oI:=hlt i hi;rw[Cs.oV hi] at HF;have ea:Cs.mK n es i=(Cs.kg n es (Cs.fr es i)).getD ((Cs.out es (Cs.fr es i) i).length+1) (-1):=by
    unfold Cs.mK;rw[if_pos hx,abz]
   rw[ea];have hle:=Cs.AH hlt oI;have hol:=Cs.rN (es:=es) (k:=2*es.length) hi rfl;have bQ:=hv.few;have c0:=h.blk.c0;have c1:=h.blk.c1;have c2:=h.blk.c2;have c3:=h.blk.c3;have d0:=h.gG _ oI;have d1:=h.start _ oI;have d3:=h.place i hi;have BP:=h.half;have hpos:Cs.pos es (2*es.length) i=Cs.st es (2*es.length) (Cs.fr es i)+(Cs.out es (Cs.fr es i) i).length:=rfl;rw[hpos] at d3;obtain⟨j,hj⟩:∃j,(Cs.out es (Cs.fr es i) i).length=j:=⟨_,rfl⟩;rw[hj] at d3 hol ⊢;have sH:∀(q:Nat),(Cs.out es (Cs.fr es i) (2*es.length))[j+1]? =some q->w.cell? ⟨gh,Cs.st es (2*es.length) (Cs.fr es i)+(j+1),none⟩=some (.int .i64 (q:Int)):=fun q hq=>by
    obtain⟨h1,h2,h3⟩:=Cs.oB hq;have:=BP q h1;unfold Cs.pos at this;rw[h2,h3] at this;exact this
   unfold Cs.kg;rw[aao,aaP,Cs.nH oI];obtain⟨f,hf⟩:∃f,Cs.fr es i=f:=⟨_,rfl⟩;rw[hf] at HF hle hol d0 d1 d3 sH oI ⊢;obtain⟨O,hO⟩:∃O,Cs.out es f (2*es.length)=O:=⟨_,rfl⟩;rw[hO] at hle hol d0 sH ⊢;obtain⟨s,hs⟩:∃s,Cs.st es (2*es.length) f=s:=⟨_,rfl⟩;rw[hs] at hle d1 d3 sH;have z0:(0:Int)<=(i:Int):=by omega
   have z1:(i:Int)<2*(es.length:Int):=by omega
   have z2:(0:Int)<=(f:Int):=by omega
   have z3:(f:Int)<(n:Int):=by omega
   clear h hv hlt BP hf hO hs hj ea hpos hx;by_cases eR:j+1=O.length
   .have hge:O[j+1]? =none:=aaV (by omega)
    rw[hge];have he:((s:Int)+(j:Int)+1==(s:Int)+(O.length:Int))=true:=by simp;omega
    clear sH hge;go_enter func182,ntmps182;go_wp2_with (first|(go_at_call 236;refine HV.out.mono ?_;rintro e w1 ⟨rfl,rfl⟩)|(go_at_call 237;refine HF.out.mono ?_;rintro e w1 ⟨rfl,rfl⟩));go_quiet (fail);go_wp2;go_ret;exact⟨rfl,_,rfl⟩
   .obtain⟨q,hq⟩:∃q,O[j+1]? =some q:=⟨_,aac (by omega)⟩
    have hc:=sH q hq;rw[hq];have he:((s:Int)+(j:Int)+1==(s:Int)+(O.length:Int))=false:=by simp;omega
    have z4:(0:Int)<=(s:Int)+(j:Int)+1:=by omega
    have z5:(s:Int)+(j:Int)+1<2*(es.length:Int):=by omega
    have z6:((s:Int)+(j:Int)+1).toNat=s+(j+1):=by omega
    clear sH hq;go_enter func182,ntmps182;go_wp2_with (first|(go_at_call 236;refine HV.out.mono ?_;rintro e w1 ⟨rfl,rfl⟩)|(go_at_call 237;refine HF.out.mono ?_;rintro e w1 ⟨rfl,rfl⟩));go_quiet (fail);go_wp2;go_ret;exact⟨rfl,_,rfl⟩
 .rw[decide_eq_false hx] at HV
  rw[Cs.MP hx];clear h hx HF;go_enter func182,ntmps182;go_wp2_with (go_at_call 236;refine HV.out.mono ?_;rintro e w1 ⟨rfl,rfl⟩);go_ret;exact⟨rfl,0,rfl⟩
end
section
open Go.Proofs.Tryz
open Go.RowKit
theorem Ku.YN (W:World) (q:Nat):Below W.heap.size W (W.drewN q):=⟨rfl,rfl,rfl,aad _,fun _ _=>rfl⟩
namespace Ku
section
variable {n:Nat} {es:List (Int×Int)}
theorem A7 {v:Nat} (h:v<n):Cs.kg n es (v:Int)=(Cs.out es v (2*es.length)).map fun i:Nat=>(i:Int):=by
 unfold Cs.kg;rw[Cs.nH h]
theorem Ag {v:Nat} (h:v<n):(Cs.yF n es (v:Int)).length=dg es v:=by rw[Cs.nH h];rfl
theorem JU {h k:Nat} (hu:Cs.to es h<n) (e:Cs.out es (Cs.to es h) (2*es.length)=[Cs.twin h,k]):Cs.rV n es (Cs.to es h:Int)=(Cs.twin h:Int):=by
 unfold Cs.rV;rw[A7 hu,e];rfl
theorem JV {h k:Nat} (hu:Cs.to es h<n) (e:Cs.out es (Cs.to es h) (2*es.length)=[k,Cs.twin h]):Cs.rV n es (Cs.to es h:Int)=(k:Int):=by
 unfold Cs.rV;rw[A7 hu,e];rfl
theorem Kt {h k:Nat} (hh:h<2*es.length) (hu:Cs.to es h<n) (e:Cs.out es (Cs.to es h) (2*es.length)=[Cs.twin h,k]):Cs.mK n es (Cs.twin h:Int)=(k:Int):=by
 have ht:=Cs.eM hh;have h0:=(Cs.oB (es:=es) (v:=Cs.to es h) (k:=2*es.length) (j:=0) (i:=Cs.twin h) (by rw[e];rfl)).2.2;unfold Cs.mK;rw[if_pos ⟨by omega,by omega⟩,abz,Cs.fQ,A7 hu,e,h0];rfl
end
end Ku
theorem Uc (p n:Nat) (es:List (Int×Int)) (ga:Option Addr) (gn gc h:Nat) (w:World) (hA:cL w (.pointer (some ⟨p,0,none⟩)) n es) (hv:Si.Val n es) (hh:h<2*es.length) (hk:Ku.fL es h=none):
 Calls prog 262 #[.agg #[.pointer (some ⟨p,0,none⟩),.slice ga gn gc],.int .i64 (h:Int)] w fun e w'=>e= .returned (.tuple #[.int .i64 0,.bool false])/\Below w.heap.size w w':=by
 obtain⟨W,hW⟩:∃W,W=w.alloc (.cells #[.pointer (some ⟨p,0,none⟩),.slice ga gn gc] 317):=⟨_,rfl⟩;have hB0:Below w.heap.size w W:=by rw[hW];exact(aae _ _).alloc (aad _) _
 have g1:W.heap[w.heap.size]? =some (.cells #[.pointer (some ⟨p,0,none⟩),.slice ga gn gc] 317 (0,0)):=by rw[hW];exact heap_alloc_new w _
 obtain⟨c0,-,-⟩:=af g1;have hA':=hA.later hB0;have htn:=(Cs.dX hv hh).2;have HT:Hid (Calls prog 238 #[.pointer (some ⟨p,0,none⟩),.int .i64 (h:Int)] W fun e w'=>e= .returned (.int .i64 (Cs.to es h:Int))/\w'=W):=by
  have:=Fq _ n es (h:Int) W hA';rw[Cs.toI_in hh] at this;exact this
 have HD:Hid (Calls prog 209 #[.pointer (some ⟨p,0,none⟩),.int .i64 (Cs.to es h:Int)] W fun e w'=>e= .returned (.int .i64 (Ku.dg es (Cs.to es h):Int))/\w'=W):=by
  have:=mJ _ n es (Cs.to es h:Int) W hA';rw[Ku.Ag htn] at this;exact this
 have HB:=ζ hB0;have HW:=ζ hW;have yl:=ζ c0;have hd:=(Ku.kX hh).1 hk;obtain⟨dv,DJ⟩:∃dv,(Ku.dg es (Cs.to es h):Int)=dv:=⟨_,rfl⟩;rw[DJ] at HD;have t1:(dv != 2)=true:=by rw[<-DJ];simp;omega
 clear hA hA' hB0 g1 hd DJ hk htn;rw[hW] at c0;clear hW;go_enter func262,ntmps262;go_wp2_with (go_at_call 238;rw[<-HW.out];refine HT.out.mono ?_;rintro e w1 ⟨rfl,hw1⟩;obtain rfl:=hw1.symm;refine aaj ?_);refine ζ ?_;clear c0;have c0:=yl.out;go_wp2_with (go_at_call 209;refine HD.out.mono ?_;rintro e w1 ⟨rfl,hw2⟩;obtain rfl:=hw2.symm;refine aaj ?_);refine ζ ?_;go_wp2;go_ret2;exact⟨rfl,HB.out⟩
theorem Qw (p n:Nat) (es:List (Int×Int)) (ga:Option Addr) (gn gc h k:Nat) (w:World) (hA:cL w (.pointer (some ⟨p,0,none⟩)) n es) (hv:Si.Val n es) (hh:h<2*es.length) (hk:Ku.fL es h=some k):
 Calls prog 262 #[.agg #[.pointer (some ⟨p,0,none⟩),.slice ga gn gc],.int .i64 (h:Int)] w fun e w'=>e= .returned (.tuple #[.int .i64 (k:Int),.bool true])/\Below w.heap.size w w':=by
 obtain⟨W,hW⟩:∃W,W=w.alloc (.cells #[.pointer (some ⟨p,0,none⟩),.slice ga gn gc] 317):=⟨_,rfl⟩;have hB0:Below w.heap.size w W:=by rw[hW];exact(aae _ _).alloc (aad _) _
 have g1:W.heap[w.heap.size]? =some (.cells #[.pointer (some ⟨p,0,none⟩),.slice ga gn gc] 317 (0,0)):=by rw[hW];exact heap_alloc_new w _
 obtain⟨c0,-,-⟩:=af g1;have hA':=hA.later hB0;have htn:=(Cs.dX hv hh).2;have HT:Hid (Calls prog 238 #[.pointer (some ⟨p,0,none⟩),.int .i64 (h:Int)] W fun e w'=>e= .returned (.int .i64 (Cs.to es h:Int))/\w'=W):=by
  have:=Fq _ n es (h:Int) W hA';rw[Cs.toI_in hh] at this;exact this
 have HD:Hid (Calls prog 209 #[.pointer (some ⟨p,0,none⟩),.int .i64 (Cs.to es h:Int)] W fun e w'=>e= .returned (.int .i64 (Ku.dg es (Cs.to es h):Int))/\w'=W):=by
  have:=mJ _ n es (Cs.to es h:Int) W hA';rw[Ku.Ag htn] at this;exact this
 have HB:=ζ hB0;have HW:=ζ hW;have yl:=ζ c0;have hd:Ku.dg es (Cs.to es h)=2:=abp fun hc=>by
  have:=(Ku.kX hh).2 hc;rw[hk] at this;cases this
 rw[hd] at HD;obtain⟨cI,hne⟩:=Ku.gu hk;have hx:bits .xor .i64 (h:Int) 1=(Cs.twin h:Int):=Cs.kS h (by have:=hv.few;omega);have HF:=ζ (Mu _ n es (Cs.to es h:Int) W hA');have HAF:Hid (∀q,Calls prog 182 #[.pointer (some ⟨p,0,none⟩),.int .i64 (Cs.twin h:Int)] (W.drewN q) fun e w'=>e= .returned (.int .i64 (Cs.mK n es (Cs.twin h:Int)))/\∃k,w'=(W.drewN q).drewN k):=fun q=>MO _ n es (Cs.twin h:Int) (W.drewN q) (hA'.later (Ku.YN _ q))
 have hd2:∀q,(W.drewN q).cell? ⟨w.heap.size,0,none⟩=some (.pointer (some ⟨p,0,none⟩)):=fun q=>((Ku.YN W q).cell (p:=⟨w.heap.size,0,none⟩) (block_lt_of_cell c0)).trans c0
 have Vz:=ζ hd2;have WV:Hid (∀q,Below w.heap.size w (W.drewN q)):=fun q=>hB0.trans ((Ku.YN W q).mono hB0.size)
 rcases cI with he|he
 .rw[Ku.JU htn he] at HF
  rw[Ku.Kt hh htn he] at HAF;have t2:((Cs.twin h:Int)==(Cs.twin h:Int))=true:=by simp
  clear hA hA' hB0 g1 hd hk htn he hne hd2;rw[hW] at c0;clear hW;go_enter func262,ntmps262;go_wp2_with (go_at_call 238;rw[<-HW.out];refine HT.out.mono ?_;rintro e w1 ⟨rfl,hw1⟩;obtain rfl:=hw1.symm;refine aaj ?_);refine ζ ?_;clear c0;have c0:=yl.out;go_wp2_with (go_at_call 209;refine HD.out.mono ?_;rintro e w1 ⟨rfl,hw2⟩;obtain rfl:=hw2.symm;refine aaj ?_);refine ζ ?_;go_wp2_with (go_at_call 234;refine HF.out.mono ?_;rintro e w1 ⟨rfl,q,rfl⟩;refine aaj ?_);refine ζ ?_;have d2:=Vz.out q;go_wp2_with (go_at_call 182;refine(HAF.out q).mono ?_;rintro e w1 ⟨rfl,q',rfl⟩;refine aaj ?_);refine ζ ?_;go_wp2;go_ret2;exact⟨rfl,WV.out _⟩
 .rw[Ku.JV htn he] at HF
  have t2:((k:Int)==(Cs.twin h:Int))=false:=by simp;omega
  clear hA hA' hB0 g1 hd hk htn he hne hd2;rw[hW] at c0;clear hW;go_enter func262,ntmps262;go_wp2_with (go_at_call 238;rw[<-HW.out];refine HT.out.mono ?_;rintro e w1 ⟨rfl,hw1⟩;obtain rfl:=hw1.symm;refine aaj ?_);refine ζ ?_;clear c0;have c0:=yl.out;go_wp2_with (go_at_call 209;refine HD.out.mono ?_;rintro e w1 ⟨rfl,hw2⟩;obtain rfl:=hw2.symm;refine aaj ?_);refine ζ ?_;go_wp2_with (go_at_call 234;refine HF.out.mono ?_;rintro e w1 ⟨rfl,q,rfl⟩;refine aaj ?_);refine ζ ?_;go_wp2;go_ret2;exact⟨rfl,WV.out _⟩
namespace Ku
def YR (es:List (Int×Int)) (h:Nat) (w:World) (e:Ending) (w':World):Prop:=∃(k:Nat) (b:Bool),e= .returned (.tuple #[.int .i64 (k:Int),.bool b])/\((b=true/\fL es h=some k)\/(b=false/\fL es h=none/\k=0))/\Below w.heap.size w w'
end Ku
theorem Hj (p n:Nat) (es:List (Int×Int)) (ga:Option Addr) (gn gc h:Nat) (w:World) (hA:cL w (.pointer (some ⟨p,0,none⟩)) n es) (hv:Si.Val n es) (hh:h<2*es.length):
 Calls prog 262 #[.agg #[.pointer (some ⟨p,0,none⟩),.slice ga gn gc],.int .i64 (h:Int)] w (Ku.YR es h w):=by
 cases hk:Ku.fL es h with
 |none=>
  refine(Uc p n es ga gn gc h w hA hv hh hk).mono ?_;rintro e w' ⟨rfl,hb⟩;exact⟨0,false,rfl,.inr ⟨rfl,hk,rfl⟩,hb⟩
 |some k=>
  refine(Qw p n es ga gn gc h k w hA hv hh hk).mono ?_;rintro e w' ⟨rfl,hb⟩;exact⟨k,true,rfl,.inl ⟨rfl,hk⟩,hb⟩
namespace Ku
section
variable {es:List (Int×Int)} {n:Int} {hv:Si.Val n es}
def rD (es:List (Int×Int)) {n:Int} (hv:Si.Val n es) (e b:Nat):Prop:=b<2*es.length/\(∃x∈all (gs es hv).toSys b,x/2=e)/\(jZ (gs es hv).toSys (all (gs es hv).toSys b)\/(b=2*e/\dN (gs es hv).toSys (all (gs es hv).toSys b)))
theorem Kr {e j x:Nat} (he:e<es.length) (hx:(all (gs es hv).toSys (Cs.twin (2*e)))[j]? =some x) (hn:fL es x=none):rD es hv e (Cs.twin x):=by
 have hh:2*e<(gs es hv).toSys.M:=show 2*e<2*es.length by omega
 have pW:Cs.twin (2*e)<(gs es hv).toSys.M:=Cs.eM hh;have hj:=all_none pW hx hn;obtain⟨h1,h2,h3⟩:=P7 (S:=gs es hv) (h0:=2*e) (x:=x) hh (show(all (gs es hv).toSys (Cs.twin (2*e)))[(all (gs es hv).toSys (Cs.twin (2*e))).length-1]? =some x by rw[show(all (gs es hv).toSys (Cs.twin (2*e))).length-1=j by omega];exact hx) hn;exact⟨h1,⟨2*e,h3,by omega⟩,.inl h2⟩
theorem GN {e j x:Nat} (he:e<es.length) (hx:(all (gs es hv).toSys (Cs.twin (2*e)))[j]? =some x) (hn:fL es x=some (Cs.twin (2*e))):rD es hv e (2*e):=by
 have hh:2*e<(gs es hv).toSys.M:=show 2*e<2*es.length by omega
 have pW:Cs.twin (2*e)<(gs es hv).toSys.M:=Cs.eM hh;have hj:=xS pW hx hn;have h2:=MN (S:=gs es hv) (h0:=2*e) (x:=x) hh (show(all (gs es hv).toSys (Cs.twin (2*e)))[(all (gs es hv).toSys (Cs.twin (2*e))).length-1]? =some x by rw[show(all (gs es hv).toSys (Cs.twin (2*e))).length-1=j by omega];exact hx) hn;exact⟨hh,⟨2*e,aai (all_zero hh),by omega⟩,.inr ⟨rfl,h2⟩⟩
theorem lp (e:Nat):Cs.twin (2*e)=2*e+1:=by unfold Cs.twin;rw[if_pos (by omega)]
theorem rE (e:Nat):Cs.twin (2*e+1)=2*e:=by unfold Cs.twin;rw[if_neg (by omega)];omega
end
def WZ (es:List (Int×Int)) {n:Int} (hv:Si.Val n es) (e0:Nat) (w:World) (e:Ending) (w':World):Prop:=∃b:Nat,e= .returned (.int .i64 (b:Int))/\rD es hv e0 b/\Below w.heap.size w w'
end Ku
theorem Hl (p n:Nat) (es:List (Int×Int)) (ga:Option Addr) (gn gc e0:Nat) (w:World) (hA:cL w (.pointer (some ⟨p,0,none⟩)) n es) (hv:Si.Val (n:Int) es) (he:e0<es.length):
 Calls prog 212 #[.agg #[.pointer (some ⟨p,0,none⟩),.slice ga gn gc],.int .i64 (e0:Int)] w (Ku.WZ es hv e0 w):=by
 obtain⟨W,hW⟩:∃W,W=w.alloc (.cells #[.pointer (some ⟨p,0,none⟩),.slice ga gn gc] 317):=⟨_,rfl⟩;have hB0:Below w.heap.size w W:=by rw[hW];exact(aae _ _).alloc (aad _) _
 have g1:W.heap[w.heap.size]? =some (.cells #[.pointer (some ⟨p,0,none⟩),.slice ga gn gc] 317 (0,0)):=by rw[hW];exact heap_alloc_new w _
 obtain⟨c0,c1,-⟩:=af g1;have bQ:=hv.few;obtain⟨bk,hbk⟩:∃bk:Nat,bk=2*e0+1:=⟨_,rfl⟩;have hbk2:Cs.twin (2*e0)=bk:=by rw[Ku.lp,hbk]
 obtain⟨T,hT⟩:∃T,Ku.all (Ku.gs es hv).toSys bk=T:=⟨_,rfl⟩;have zO:bk<(Ku.gs es hv).toSys.M:=show bk<2*es.length by omega
 have lR:=(Ku.bJ zO).2.2.1;have CQ:=ζ (Ku.all_zero zO);have pL:Hid (∀j x k,T[j]? =some x->Ku.fL es x=some k->k≠bk->T[j+1]? =some k):=fun j x k hx e hk=>by rw[<-hT] at hx ⊢;exact Ku.Al zO hx e hk
 have Za:Hid (∀j x,T[j]? =some x->Ku.fL es x=none->Ku.rD es hv e0 (Cs.twin x)):=fun j x hx e=>Ku.Kr he (by rw[hbk2,hT];exact hx) e
 have Vt:Hid (∀j x,T[j]? =some x->Ku.fL es x=some bk->Ku.rD es hv e0 (2*e0)):=fun j x hx e=>Ku.GN he (by rw[hbk2,hT];exact hx) (by rw[hbk2];exact e)
 have l5:Hid (∀j x,T[j]? =some x->x<2*es.length):=fun j x hx=>lR x (by rw[hT];exact aai hx)
 rw[hT] at CQ;have Ql:Hid (∀(h:Nat) (U:World),h<2*es.length->Below W.heap.size W U->Calls prog 262 #[.agg #[.pointer (some ⟨p,0,none⟩),.slice ga gn gc],.int .i64 (h:Int)] U (Ku.YR es h U)):=fun h U hh hU=>Hj p n es ga gn gc h U ((hA.later hB0).later hU) hv hh
 have HX:Hid (∀h:Nat,h<2*es.length->bits .xor .i64 (h:Int) 1=(Cs.twin h:Int)):=fun h hh=>Cs.kS h (by omega)
 have hwa:IntKind.i64.wrap (2*(e0:Int))=2*(e0:Int):=by rw[aam];omega
 have hwb:IntKind.i64.wrap (2*(e0:Int)+1)=(bk:Int):=by rw[aam];omega
 have hxb:bits .xor .i64 (bk:Int) 1=((2*e0:Nat):Int):=by rw[HX.out bk (by omega),hbk,Ku.rE]
 have aH:=ζ hB0;have HG:=ζ g1;have HW:=ζ hW;have hbl:bk<2*es.length:=zO;have HO0:=ζ (Ql.out bk W hbl (aae _ _));clear hA hB0 g1 hbk hbk2 hT zO lR;rw[hW] at c0 c1;clear hW;go_enter func212,ntmps212;go_wp2_with (go_at_call 262;rw[<-HW.out];refine HO0.out.mono ?_;refine aaj ?_);refine ζ ?_;rintro e w1 ⟨k0,b0,rfl,hc0,hb1⟩;have yl:=ζ hc0;have aI:=ζ hb1;clear c0 c1 hc0 hb1;go_wp2
 go_loopg [6,7,8] T.length (fun d s6 s7 s8 wr=>∃(j x k:Nat) (b:Bool),T[j]? =some x/\T.length-j<=d/\s6= .int .i64 (x:Int)/\s7= .int .i64 (k:Int)/\s8= .bool b/\((b=true/\Ku.fL es x=some k)\/(b=false/\Ku.fL es x=none/\k=0))/\Below W.heap.size W wr)
 case atStart=>exact⟨0,bk,k0,b0,CQ.out,by omega,rfl,rfl,rfl,yl.out,aI.out⟩
 case round=>
  obtain⟨j,x,k,b,hx,hd,rfl,rfl,rfl,hc,hb⟩:=hrel;obtain⟨U,rfl⟩:∃U,U=wr:=⟨wr,rfl⟩;have HXX:=ζ hx;have HB:=ζ hb;have hxl:=l5.out j x hx;rcases hc with ⟨rfl,hk⟩|⟨rfl,hk,rfl⟩
  .have HK:=ζ hk
   by_cases hkb:k=bk
   .have t1:((k:Int)==(bk:Int))=true:=by simp[hkb]
    have HF:=ζ (Vt.out j x hx (by rw[hk,hkb]));obtain rfl:=hkb;clear hx hb hk;go_wp2;go_ret;exact⟨2*e0,rfl,HF.out,aH.out.trans (HB.out.mono aH.out.size)⟩
   .have t1:((k:Int)==(bk:Int))=false:=by simp;omega
    have HN:=ζ (pL.out j x k hx hk hkb);have hkl:=l5.out _ _ HN.out;have fX:=ζ (Ql.out k U hkl hb);obtain⟨c0,c1,-⟩:=af ((hb.block _ (lt_of_block HG.out)).trans HG.out);have hjl:=(aah.1 HN.out).1;clear hx hb hk hkb;go_wp2_with (go_at_call 262;refine fX.out.mono ?_;refine aaj ?_);refine ζ ?_;rintro e w2 ⟨k2,b2,rfl,hc2,hb2⟩;have sU:=ζ hc2;have aB:=ζ (HB.out.trans (hb2.mono HB.out.size));clear c0 c1 hc2 hb2;go_wp2
    go_roundg (T.length-(j+1))
    case measure=>omega
    case rel=>exact⟨j+1,k,k2,b2,HN.out,aad _,rfl,rfl,rfl,sU.out,aB.out⟩
  .have HF:=ζ (Za.out j x hx hk)
   have Ri:=HX.out x hxl;clear hx hb hk;go_wp2;go_ret;exact⟨Cs.twin x,rfl,HF.out,aH.out.trans (HB.out.mono aH.out.size)⟩
end
end Go.Proofs.YtdbjpbjocmcpkaaGreatDoor
