import Derived.Test.YtdbjpbjocmcpkaaGreatDoorMk04
import Derived.Test.YtdbjpbjocmcpkaaGreatDoorMk12
import Derived.Sort.OwnSortedInts
import Derived.Laws.CopyOwn
import Derived.Deep.RegionLaw
set_option maxHeartbeats 8000000
set_option maxRecDepth 100000
namespace Go.Proofs.YtdbjpbjocmcpkaaGreatDoor
section
open Go.RowKit
section
variable {B:Nat} {v v':Value} {vs vs2:List Value} {ls xq:List (List Int)}
theorem ay.more {W w1:World} (h:ay W B v vs ls) (AL:vs2.length=xq.length) (IQ:∀(u:Nat) (x:Value) (l:List Int),vs2[u]? =some x->xq[u]? =some l->av W B x l)
 (Cz:∀(u u':Nat) (x x':Value) (b:Nat),u≠u'->vs2[u]? =some x->vs2[u']? =some x'->x.ownBlock=some b->x'.ownBlock≠some b) (hx:∀b,bY vs2 b->¬(v.ownBlock=some b\/bY vs b))
 (hown:w1.ownsRow B 55 1 v' (ls.length+xq.length) (vs++vs2)) (hgrow:W.grownBy w1 v.ownBlock) (hat:v'.ownBlock=v.ownBlock\/v'.ownBlock=some W.heap.size):ay w1 B v' (vs++vs2) (ls++xq):=by
 have hsame:∀g,v.ownBlock≠some g->g<W.heap.size->w1.heap[g]? =W.heap[g]? :=fun g hne hg=>hgrow.block g hg (fun e=>hne e.symm)
 have hpart:∀u y,(vs++vs2)[u]? =some y->(u<vs.length/\vs[u]? =some y)\/(vs.length<=u/\vs2[u-vs.length]? =some y):=fun u y hy=>by
  by_cases hu:u<vs.length
  .rw[aaU hu] at hy
   exact .inl ⟨hu,hy⟩
  .rw[aa4 (by omega)] at hy
   exact .inr ⟨by omega,hy⟩
 have Nb:∀{u:Nat} {x:Value},vs2[u]? =some x->∃l,xq[u]? =some l:=fun {u x} hx=>⟨_,aaC (by rw[<-AL];exact(aaF.1 hx).1)⟩
 refine⟨by simp[h.len,AL],by rw[aaN];exact hown,fun u y k hy hk=> ?_,fun u u' y y' b hne hy hy' hb=> ?_,fun u y b hy hb=> ?_⟩
 .rcases hpart u y hy with ⟨hu,h1⟩|⟨hu,h1⟩
  .rw[aaU (by rw[<-h.len];exact hu)] at hk
   exact(h.row u y k h1 hk).same fun g hg hl=>hsame g (h.far u y g h1 hg) hl
  .rw[aa4 (by rw[<-h.len];exact hu),<-h.len] at hk
   exact(IQ _ y k h1 hk).same fun g hg hl=>hsame g (fun e=>hx g ⟨_,y,h1,hg⟩ (.inl e)) hl
 .rcases hpart u y hy with ⟨hu,h1⟩|⟨hu,h1⟩<;>rcases hpart u' y' hy' with ⟨zC,h2⟩|⟨zC,h2⟩
  .exact h.apart u u' y y' b hne h1 h2 hb
  .intro hc
   exact hx b ⟨_,y',h2,hc⟩ (.inr ⟨u,y,h1,hb⟩)
  .intro hc
   exact hx b ⟨_,y,h1,hb⟩ (.inr ⟨u',y',h2,hc⟩)
  .exact Cz _ _ y y' b (by omega) h1 h2 hb
 .intro hc
  rcases hat with e|e
  .rw[e] at hc
   rcases hpart u y hy with ⟨hu,h1⟩|⟨hu,h1⟩
   .exact h.far u y b h1 hb hc
   .exact hx b ⟨_,y,h1,hb⟩ (.inl hc)
  .have fZ:=aaQ (e.symm.trans hc)
   rcases hpart u y hy with ⟨hu,h1⟩|⟨hu,h1⟩
   .obtain⟨k,hk⟩:=h.at h1
    have:=(aaJ (h.row u y k h1 hk) b hb).2;omega
   .obtain⟨k,hk⟩:=Nb h1
    have:=(aaJ (IQ _ y k h1 hk) b hb).2;omega
theorem ay.within {W:World} (h:ay W B v vs ls) {b:Nat} (hb:v.ownBlock=some b\/bY vs b):B<=b/\b<W.heap.size:=by
 rcases hb with hb|⟨u,x,hx,hb⟩
 .exact aaJ h.outer b hb
 .obtain⟨l,hl⟩:=h.at hx
  exact aaJ (h.row u x l hx hl) b hb
end
theorem zm {U:World} {o:Oper} {a:Act} {K:Act->World->Prop} {Q:Exit->Act->World->Prop} (s x:Operand) (ho:o.op= .call { callee:= .builtin .append,args:= #[s,x],argTypes:= #[25,25] })
 (B:Nat) (v:Value) (vs vs2:List Value) (ls xq:List (List Int)) (hR:ay U B v vs ls) (hB:B<=U.heap.size) (hs:a.eval s=v) (xo:Option Addr) (m c:Nat) (hm:xq.length=m) (hx:a.eval x= .slice xo m c) (sO:xo=none->c=0)
 (AL:vs2.length=xq.length) (hnews:∀j u,vs2[j]? =some u->∃ad,xo=some ad/\U.cell? (ad.add j)=some u) (hone:∀u∈vs2,u.oneCell'=true)
 (IQ:∀(u:Nat) (x:Value) (l:List Int),vs2[u]? =some x->xq[u]? =some l->av U B x l)
 (Cz:∀(u u':Nat) (x x':Value) (b:Nat),u≠u'->vs2[u]? =some x->vs2[u']? =some x'->x.ownBlock=some b->x'.ownBlock≠some b) (nk:∀b,bY vs2 b->¬(v.ownBlock=some b\/bY vs b))
 (hl:(ls.length+m)*24<=140737488355328)
 (h:∀v' w',ay w' B v' (vs++vs2) (ls++xq)->U.grownBy w' v.ownBlock->(v'.ownBlock=v.ownBlock\/v'.ownBlock=some U.heap.size)->K (a.put o.dst v') w'):o.wp Tryz.prog a U K Q:=by
 obtain⟨i1,hi1,hy0,hy1,hy2⟩:=info_parts Tryz.rj;cases xo with
 |none=>
  have h0:vs2=[]:=by
   cases vs2 with
   |nil=>rfl
   |cons y vs2=>
    obtain⟨ad,e,_⟩:=hnews 0 y rfl;cases e
  subst h0;have h1:xq=[]:=abo.1 (by rw[<-AL];rfl);subst h1;subst hm;obtain rfl:=sO rfl;have hr:=run_append_owned_none (P:=Tryz.prog) (w:=U) B 25 o.type 55 i1 1 Tryz.underlying25 hi1 v ls.length vs hR.outer;unfold Oper.wp execOp;simp only[ho,resolve,invoke,builtin,Sem.run_bind,Sem.run_pure,acW,ac6,ab9,ac2,hs,hx];rw[acL,hr];refine h v U ?_ ⟨rfl,rfl,rfl,aaD _,fun _ _ _=>rfl⟩ (.inl rfl);rw[abp,abp];exact hR
 |some ad=>
  obtain⟨v',w',hr,h2,h3,_,h5⟩:=run_append_own_at (P:=Tryz.prog) U B 25 o.type 55 i1 (.slice none 0 0) 1 24 Tryz.underlying25 hi1 hy0 hy1 hy2 rfl (by decide) v ls.length vs hR.outer ad m c vs2 (by rw[AL,hm];omega) (fun j u hj=>by
   obtain⟨ad',e,hc⟩:=hnews j u hj;cases e;exact hc) hone (by unfold maxLen;omega) hl hB
  unfold Oper.wp execOp;simp only[ho,resolve,invoke,builtin,Sem.run_bind,Sem.run_pure,acW,ac6,ab9,ac2,hs,hx,hr];refine h v' w' (hR.more AL IQ Cz nk (by rw[hm];exact h2) h3 h5) h3 h5
end
section
open Go.Proofs.Tryz
open Go.RowKit Go.Sort
theorem G5 (w:World):Sort.grow w #[]=w:=by
 cases w;simp[Sort.grow]
theorem o8 (B:Nat) (v:Value) (R:List Int) (w:World) (h:av w B v R) (h0:R≠[]) (hl:R.length<=17592186044000):
 Calls prog 93 #[v] w fun e w'=>e= .returned (.tuple #[])/\av w' B v R.reverse/\w.grownBy w' v.ownBlock:=by
 have hml:R.reverse.length=R.length:=acv;rcases h.2 with ⟨rfl,h1⟩|⟨g,cap,cur,rfl,hg,hh,hc,hm,hs,ht⟩
 .exact absurd (abo.1 h1) h0
 .rw[Nat.mul_one] at ht
  refine(Tryz.slices_Reverse_int g 0 cap R w (holds_of_blockI hh ht) (by omega)).mono ?_;rintro e w' ⟨rfl,n,rfl⟩;have a1:=ownsRow_sortedI (n:=n) (os:= #[]) hml hg hh hc hm hs;have a2:=grownBy_sortedI (w:=w) (g:=g) (n:=n) (os:= #[]) R.reverse.toArray;rw[G5] at a1 a2;refine⟨rfl,?_,a2⟩;unfold av;rw[hml];exact a1
theorem zq (B:Nat) (ao:Option Addr) (q c:Nat) (l:List Int) (w:World) (hq:l.length=q) (h:av w B (.slice ao q c) l) (hB:B<=w.heap.size) (h2:2<=q) (hl:q<=17592186044000):
 Calls prog 210 #[.slice ao q c] w fun e w'=>e= .returned (.slice ao q c)/\av w' B (.slice ao q c) (Ku.dJ l)/\Below B w w':=by
 obtain⟨zR,c',e,hat,-⟩:=h.form;rw[hq] at e;cases e;have fP:=ζ h;have WT:Hid (∀b,(Value.slice ao q c).ownBlock=some b->B<=b):=fun b hb=>(aaJ h b hb).1
 obtain⟨q1,hq1⟩:∃q1,q1=q-1:=⟨_,rfl⟩;obtain⟨q2,zG⟩:∃q2,q2=q-2:=⟨_,rfl⟩;obtain⟨x0,hx0⟩:∃x,l[0]? =some x:=⟨_,aaC (by omega)⟩;obtain⟨x1,hx1⟩:∃x,l[1]? =some x:=⟨_,aaC (by omega)⟩;obtain⟨xn,sO⟩:∃x,l[q1]? =some x:=⟨_,aaC (by omega)⟩;obtain⟨xm,Rz⟩:∃x,l[q2]? =some x:=⟨_,aaC (by omega)⟩;obtain⟨b,o,rfl,e0⟩:=hat 0 x0 hx0;obtain⟨_,_,e,e1⟩:=hat 1 x1 hx1;cases e;obtain⟨_,_,e,e2⟩:=hat q1 xn sO;cases e;obtain⟨_,_,e,e3⟩:=hat q2 xm Rz;cases e;rw[abv] at e0;have hw1:IntKind.i64.wrap ((q:Int)-1)=(q1:Int):=by rw[aaK];omega
 have hw2:IntKind.i64.wrap ((q1:Int)-1)=(q2:Int):=by rw[aaK];omega
 have i0:(0:Int)<(q:Int):=by omega
 have i1:(1:Int)<(q:Int):=by omega
 have i2:(0:Int)<=(q1:Int):=by omega
 have i3:(q1:Int)<(q:Int):=by omega
 have i4:(0:Int)<=(q2:Int):=by omega
 have i5:(q2:Int)<(q:Int):=by omega
 have qA:Hid (∀U:World,Below w.heap.size w U->(∀D:LW U,D.val.cell? ⟨b,o,none⟩=some (.int .i64 x0))/\(∀D:LW U,D.val.cell? ⟨b,o+1,none⟩=some (.int .i64 x1))/\(∀D:LW U,D.val.cell? ⟨b,o+q1,none⟩=some (.int .i64 xn))/\(∀D:LW U,D.val.cell? ⟨b,o+q2,none⟩=some (.int .i64 xm))):=fun U hU=>
  have key:∀(D:LW U) (i:Nat) (x:Value),w.cell? ⟨b,i,none⟩=some x->D.val.cell? ⟨b,i,none⟩=some x:=fun D i x hx=>((hU.trans (D.h.mono hU.size)).cell (p:=⟨b,i,none⟩) (block_lt_of_cell hx)).trans hx
  ⟨fun D=>key D _ _ e0,fun D=>key D _ _ e1,fun D=>key D _ _ e2,fun D=>key D _ _ e3⟩
 have JD:Hid (Ku.dJ l=if xn<x0\/(x0=xn/\xm<x1) then l.reverse else l):=by
  show _=_;unfold Ku.dJ;rw[hq,<-hq1,<-zG,Ku.dL hx0,Ku.dL hx1,Ku.dL sO,Ku.dL Rz]
 have AP:l≠[]:=fun e=>by rw[e] at hq;simp at hq;omega
 have PO:Hid (∀W,Below w.heap.size w W->Calls prog 93 #[.slice (some ⟨b,o,none⟩) q c] W fun e w'=>e= .returned (.tuple #[])/\av w' B (.slice (some ⟨b,o,none⟩) q c) l.reverse/\W.grownBy w' (Value.slice (some ⟨b,o,none⟩) q c).ownBlock):=fun W hb=>o8 B _ l W (fP.out.later hb) AP (by omega)
 clear h hat hx0 hx1 sO Rz hq1 zG e0 e1 e2 e3 AP;obtain⟨cb,hcb⟩:∃cb,(x0==xn)=cb:=⟨_,rfl⟩;by_cases ha:xn<x0
 .have HR:Hid (Ku.dJ l=l.reverse):=by show _=_;rw[JD.out,if_pos (.inl ha)]
  have u1:decide (xn<x0)=true:=by simp only[decide_eq_true_eq];exact ha
  clear ha;go_enter func210,ntmps210;obtain⟨d0,d1,d2,d3⟩:=qA.out w (aaE w.heap.size w);have hne:=LW.any w;go_wp2_with fail;refine bP (by kernel_rfl) (by kernel_rfl) ?_
  repeat (go_big_quiet_step (fail))
  refine wpQuiet_nil ?_;rintro _ ⟨E,rfl⟩;have aN:=ζ (((aaE w.heap.size w)).trans (E.h.mono ((aaE w.heap.size w)).size));obtain⟨W1,jk⟩:∃WE,WE=E.val:=⟨_,rfl⟩;rw[<-jk] at aN ⊢;clear d0 d1 d2 d3 hne jk;obtain⟨d0,d1,d2,d3⟩:=qA.out W1 aN.out;have hne:=LW.any W1;go_wp2_with fail;refine bP (by kernel_rfl) (by kernel_rfl) ?_
  repeat (go_big_quiet_step (fail))
  refine wpQuiet_nil ?_;rintro _ ⟨E,rfl⟩;have aC:=ζ ((aN.out).trans (E.h.mono (aN.out).size));obtain⟨W2,jk⟩:∃WE,WE=E.val:=⟨_,rfl⟩;rw[<-jk] at aC ⊢;clear d0 d1 d2 d3 hne jk;have HT:=ζ (PO.out W2 aC.out);go_wp2_with (go_at_call 93;refine HT.out.mono ?_;rintro e w3 ⟨rfl,ho,hgr⟩;refine aaH ?_);refine ζ ?_;have HO:=ζ ho;have aK:=ζ ((aC.out.mono hB).grown hgr (aaM hB aC.out.size) (fun k hk=>WT.out k hk));clear ho hgr;go_wp2;go_ret;exact⟨rfl,by rw[HR.out];exact HO.out,aK.out⟩
 .have u1:decide (xn<x0)=false:=by simp only[decide_eq_false_iff_not];exact ha
  by_cases hb:x0=xn
  .have t1:cb=true:=by rw[<-hcb];simp[hb]
   subst t1;by_cases hc:xm<x1
   .have u2:decide (xm<x1)=true:=by simp only[decide_eq_true_eq];exact hc
    have HR:Hid (Ku.dJ l=l.reverse):=by show _=_;rw[JD.out,if_pos (.inr ⟨hb,hc⟩)]
    clear hb ha hc;go_enter func210,ntmps210;obtain⟨d0,d1,d2,d3⟩:=qA.out w (aaE w.heap.size w);have hne:=LW.any w;go_wp2_with fail;refine bP (by kernel_rfl) (by kernel_rfl) ?_
    repeat (go_big_quiet_step (fail))
    refine wpQuiet_nil ?_;rintro _ ⟨E,rfl⟩;have aN:=ζ (((aaE w.heap.size w)).trans (E.h.mono ((aaE w.heap.size w)).size));obtain⟨W1,jk⟩:∃WE,WE=E.val:=⟨_,rfl⟩;rw[<-jk] at aN ⊢;clear d0 d1 d2 d3 hne jk;obtain⟨d0,d1,d2,d3⟩:=qA.out W1 aN.out;have hne:=LW.any W1;go_wp2_with fail;refine bP (by kernel_rfl) (by kernel_rfl) ?_
    repeat (go_big_quiet_step (fail))
    refine wpQuiet_nil ?_;rintro _ ⟨E,rfl⟩;have aC:=ζ ((aN.out).trans (E.h.mono (aN.out).size));obtain⟨W2,jk⟩:∃WE,WE=E.val:=⟨_,rfl⟩;rw[<-jk] at aC ⊢;clear d0 d1 d2 d3 hne jk;have HT:=ζ (PO.out W2 aC.out);go_wp2_with (go_at_call 93;refine HT.out.mono ?_;rintro e w3 ⟨rfl,ho,hgr⟩;refine aaH ?_);refine ζ ?_;have HO:=ζ ho;have aK:=ζ ((aC.out.mono hB).grown hgr (aaM hB aC.out.size) (fun k hk=>WT.out k hk));clear ho hgr;go_wp2;go_ret;exact⟨rfl,by rw[HR.out];exact HO.out,aK.out⟩
   .have u2:decide (xm<x1)=false:=by simp only[decide_eq_false_iff_not];exact hc
    have HR:Hid (Ku.dJ l=l):=by show _=_;rw[JD.out,if_neg (by omega)]
    clear hb ha hc;go_enter func210,ntmps210;obtain⟨d0,d1,d2,d3⟩:=qA.out w (aaE w.heap.size w);have hne:=LW.any w;go_wp2_with fail;refine bP (by kernel_rfl) (by kernel_rfl) ?_
    repeat (go_big_quiet_step (fail))
    refine wpQuiet_nil ?_;rintro _ ⟨E,rfl⟩;have aN:=ζ (((aaE w.heap.size w)).trans (E.h.mono ((aaE w.heap.size w)).size));obtain⟨W1,jk⟩:∃WE,WE=E.val:=⟨_,rfl⟩;rw[<-jk] at aN ⊢;clear d0 d1 d2 d3 hne jk;obtain⟨d0,d1,d2,d3⟩:=qA.out W1 aN.out;have hne:=LW.any W1;go_wp2_with fail;refine bP (by kernel_rfl) (by kernel_rfl) ?_
    repeat (go_big_quiet_step (fail))
    refine wpQuiet_nil ?_;rintro _ ⟨E,rfl⟩;have aC:=ζ ((aN.out).trans (E.h.mono (aN.out).size));obtain⟨W2,jk⟩:∃WE,WE=E.val:=⟨_,rfl⟩;rw[<-jk] at aC ⊢;clear d0 d1 d2 d3 hne jk;have HO:=ζ (fP.out.later aC.out);go_wp2;go_ret;exact⟨rfl,by rw[HR.out];exact HO.out,aC.out.mono hB⟩
  .have t1:cb=false:=by rw[<-hcb];simp[hb]
   subst t1;have HR:Hid (Ku.dJ l=l):=by show _=_;rw[JD.out,if_neg (by omega)]
   clear hb ha;go_enter func210,ntmps210;obtain⟨d0,d1,d2,d3⟩:=qA.out w (aaE w.heap.size w);have hne:=LW.any w;go_wp2_with fail;refine bP (by kernel_rfl) (by kernel_rfl) ?_
   repeat (go_big_quiet_step (fail))
   refine wpQuiet_nil ?_;rintro _ ⟨E,rfl⟩;have aN:=ζ (((aaE w.heap.size w)).trans (E.h.mono ((aaE w.heap.size w)).size));obtain⟨W1,jk⟩:∃WE,WE=E.val:=⟨_,rfl⟩;rw[<-jk] at aN ⊢;clear d0 d1 d2 d3 hne jk;obtain⟨d0,d1,d2,d3⟩:=qA.out W1 aN.out;have hne:=LW.any W1;go_wp2_with fail;refine bP (by kernel_rfl) (by kernel_rfl) ?_
   repeat (go_big_quiet_step (fail))
   refine wpQuiet_nil ?_;rintro _ ⟨E,rfl⟩;have aC:=ζ ((aN.out).trans (E.h.mono (aN.out).size));obtain⟨W2,jk⟩:∃WE,WE=E.val:=⟨_,rfl⟩;rw[<-jk] at aC ⊢;clear d0 d1 d2 d3 hne jk;have HO:=ζ (fP.out.later aC.out);go_wp2;go_ret;exact⟨rfl,by rw[HR.out];exact HO.out,aC.out.mono hB⟩
end
namespace Ro
def half (es:List (Int×Int)) (u:Nat) (v:Int):Nat->Option Nat
 |0=>none
 |k+1=>match half es u v k with
  |some h=>some h
  |none=>if Cs.fr es k=u/\(Cs.to es k:Int)=v then some k else none
theorem fy {es:List (Int×Int)} {u:Nat} {v:Int}:∀{k h:Nat},half es u v k=some h->h<k/\Cs.fr es h=u/\(Cs.to es h:Int)=v
 |k+1,h,hh=>by
  unfold half at hh
  split at hh
  .rename_i h' e
   cases hh;have:=fy e;exact⟨by omega,this.2⟩
  .split at hh
   .rename_i hc
    cases hh;exact⟨by omega,hc⟩
   .cases hh
theorem qa {es:List (Int×Int)} {u:Nat} {v:Int}:∀{k:Nat},half es u v k=none->∀h,h<k->¬(Cs.fr es h=u/\(Cs.to es h:Int)=v)
 |0,_,h,hk=>by omega
 |k+1,hh,h,hk=>by
  unfold half at hh
  split at hh
  .cases hh
  .rename_i e
   split at hh
   .cases hh
   .rename_i hc
    by_cases e2:h=k
    .subst e2;exact hc
    .exact qa e h (by omega)
theorem AU {n:Nat} {es:List (Int×Int)} (hv:Si.Val n es) {i j:Nat} (hi:i<2*es.length) (hj:j<2*es.length) (h1:Cs.fr es i=Cs.fr es j) (h2:Cs.to es i=Cs.to es j):i=j:=by
 obtain⟨e,he,MG,kZ⟩:=qb hv hi;obtain⟨f,hf,UK,hpf⟩:=qb hv hj;have hinj:∀{a b:Nat} {p q:Int×Int},es[a]? =some p->es[b]? =some q->p=q->a=b:=fun {a b p q} ha hb hpq=>by
  subst hpq;exact hv.place ha hb
 unfold Si.ok at MG UK;obtain⟨e1,e2⟩:=e;obtain⟨f1,f2⟩:=f;dsimp only at kZ hpf MG UK;rcases kZ with ⟨m1,a1,a2⟩|⟨m1,a1,a2⟩<;>rcases hpf with ⟨m2,b1,b2⟩|⟨m2,b1,b2⟩
 .have:=hinj he hf (by rw[show e1=f1 by omega,show e2=f2 by omega])
  omega
 .omega
 .omega
 .have:=hinj he hf (by rw[show e1=f1 by omega,show e2=f2 by omega])
  omega
def hl (es:List (Int×Int)) (v:Nat) (x:Int):Int:=match half es v x (2*es.length) with
 |some h=>(h:Int)
 |none=> -1
def hls (es:List (Int×Int)):Nat->List (List Int)->List (List Int)
 |_,[]=>[]
 |k,l::ls=>l.map (hl es k)::hls es (k+1) ls
theorem xM (es:List (Int×Int)):∀(k:Nat) (ls:List (List Int)),(hls es k ls).length=ls.length
 |_,[]=>rfl
 |k,l::ls=>by simp[hls,xM es (k+1) ls]
theorem vH {es:List (Int×Int)}:∀{k:Nat} {ls:List (List Int)} {v:Nat} {l:List Int},ls[v]? =some l->(hls es k ls)[v]? =some (l.map (hl es (k+v)))
 |k,a::ls,0,l,h=>by
  simp at h;subst h;simp[hls]
 |k,a::ls,v+1,l,h=>by
  have:=vH (es:=es) (k:=k+1) (ls:=ls) (v:=v) (l:=l) (by simpa using h);rw[show k+1+v=k+(v+1) by omega] at this;simpa[hls] using this
theorem GW {es:List (Int×Int)} {v:Nat} {x:Int} {h:Nat} (hh:half es v x (2*es.length)=some h):hl es v x=(h:Int)/\lv es (h:Int) v=true/\h<2*es.length:=by
 obtain⟨h1,h2,h3⟩:=fy hh;refine⟨by unfold hl;rw[hh],Rq h1 h2,h1⟩
theorem B9 {es:List (Int×Int)} {v:Nat} {x:Int} (hh:half es v x (2*es.length)=none):hl es v x= -1/\lv es (-1) v=false:=by
 refine⟨by unfold hl;rw[hh],by simp[lv]⟩
theorem RY {n:Nat} {es:List (Int×Int)} (hv:Si.Val n es) {v h:Nat} {x:Int} (hh:h<2*es.length) (h1:Cs.fr es h=v) (h2:(Cs.to es h:Int)=x):half es v x (2*es.length)=some h:=by
 cases e:half es v x (2*es.length) with
 |none=>exact absurd ⟨h1,h2⟩ (qa e h hh)
 |some k=>
  obtain⟨k1,k2,k3⟩:=fy e;rw[AU hv k1 hh (by omega) (by omega)]
theorem Pe {es:List (Int×Int)} {v:Nat} {x y:Int} {h:Nat} (hh:half es v x (2*es.length)=some h) (e:hl es v y=(h:Int)):x=y:=by
 cases ey:half es v y (2*es.length) with
 |none=>rw[(B9 ey).1] at e;omega
 |some k=>
  rw[(GW ey).1] at e;have e2:k=h:=by omega
  subst e2;have h1:=(fy hh).2.2;have h2:=(fy ey).2.2;omega
theorem Pd {es:List (Int×Int)} {v:Nat} {x:Int} {h:Nat} {pre:List Int} (hh:half es v x (2*es.length)=some h):(h:Int)∈pre.map (hl es v)↔x∈pre:=by
 constructor
 .intro hm
  obtain⟨y,hy,e⟩:=abu.1 hm;rw[Pe hh e];exact hy
 .intro hm
  rw[<-(GW hh).1];exact abu.2 ⟨x,hm,rfl⟩
end Ro
section
open Go.RowKit Go.Sort
def Ow (v:Nat) (c:Int) (hs:List (List Int)) (w:World) (e:Ending) (w':World):Prop:=
 Below w.heap.size w w'/\((c≠0/\e= .returned (.tuple #[.slice none 0 0,.int .i64 (v:Int),.int .i64 c]))\/(c=0/\∃r rs,e= .returned (.tuple #[r,.int .i64 0,.int .i64 0])/\ay w' w.heap.size r rs hs))
def CU (n:Int) (es:List (Int×Int)) (ls:List (List Int)) (w:World) (e:Ending) (w':World):Prop:=
 Ow (Ro.check n es (Ro.hls es 0 ls)).1 (Ro.check n es (Ro.hls es 0 ls)).2 (Ro.hls es 0 ls) w e w'
end
section
open Go.RowKit
namespace aI
theorem V4 {P:Program} {ops:Array Oper} {Q:Exit->Act->World->Prop} {a0:Act} {w0:World} (sp:Nat->CC) (n N:Nat) (hn:n<=ops.size) (hN:a0.tmps.size=N) (hsh:shape ops n (fun i=>(sp i).deps)=true)
 (GH:∀i,i<n->∀v vs lo hi w w',hi<=w.heap.size->Below w.heap.size w w'->(sp i).post v vs lo hi w->(sp i).post v vs lo hi w')
 (hstep:∀i o (ρ:Nat->Value) w (ev:Operand->Value),i<n->ops[i]? =some o->Below w0.heap.size w0 w->(∀j∈(sp i).deps,∃lo hi,w0.heap.size<=lo/\lo<=hi/\hi<=w.heap.size/\(sp j).post (ρ j) ((sp j).deps.map ρ) lo hi w)->
   (∀j t,j<i->dst ops j=some t->t<N->ev (.tmp t)=ρ j)->(∀t,((List.range i).all fun j=>dst ops j != some t)=true->ev (.tmp t)=a0.eval (.tmp t))->(∀v,ev (.const v)=v)->(∀f,ev (.func f)= .func (.func f) #[] #[])->
   cX P o ev w fun v w'=>Below w.heap.size w w'/\(sp i).post v ((sp i).deps.map ρ) w.heap.size w'.heap.size w')
 (hend:∀(ρ:Nat->Value) (lo hi:Nat->Nat) w a,a=canon ops a0 ρ n->a.defers=a0.defers->(∀j t,j<n->dst ops j=some t->t<N->a.eval (.tmp t)=ρ j)->(∀t,((List.range n).all fun j=>dst ops j != some t)=true->a.eval (.tmp t)=a0.eval (.tmp t))->Below w0.heap.size w0 w->(∀i,i<n->w0.heap.size<=lo i/\lo i<=hi i/\hi i<=w.heap.size/\(sp i).post (ρ i) ((sp i).deps.map ρ) (lo i) (hi i) w)->(∀i j,i<n->j<n->i≠j->hi i<=lo j\/hi j<=lo i)->
   wpAny P .any ops Q (ops.size-n) (heads ops.size n) a w):
 wpAny P .any ops Q ops.size (Array.replicate ops.size false) a0 w0:=by
 have hs:=fun i (hi:i<ops.size)=>aaV.1 hsh i (aaX.2 hi)
 have hlt:∀{j t},dst ops j=some t->j<ops.size:=fun {j t} h=>by
  rcases abk j ops.size with h1|h1
  .exact h1
  .unfold dst at h;rw[ab0 h1] at h;cases h
 have hone:∀i j t,i≠j->dst ops j=some t->dst ops i≠some t:=fun i j t hij hj hi=>by
  have h1:=hs j (hlt hj);dsimp only at h1;cases ho:ops[j]? with
  |none=>rw[ho] at h1;cases h1
  |some o=>
   have hd:o.dst=some t:=by unfold dst at hj;rw[ho] at hj;exact hj
   rw[ho] at h1;simp only[aaZ] at h1;have h2:=h1.1;rw[hd] at h2;have h3:=aaV.1 h2 i (aaX.2 (hlt hi));simp only[abw,beq_iff_eq,bne_iff_ne] at h3;rcases h3 with h3|h3
   .exact hij h3
   .exact h3 hi
 have hop:∀i,i<n->∃o,ops[i]? =some o/\o.guard=none/\(∀cs b,o.op≠.select cs b)/\
  (∀t,Operand.tmp t∈o.op.operands->∀j,j<ops.size->dst ops j=some t->j<i/\∃e∈o.after,Region.binds .any e=true/\e.on=j)/\
  (∀j∈(sp i).deps,j<i/\∃e∈o.after,Region.binds .any e=true/\e.on=j)/\(∀e∈o.after,Region.binds .any e=true->e.on<i):=fun i hi=>by
  have h1:=hs i (by omega);dsimp only at h1;cases ho:ops[i]? with
  |none=>rw[ho] at h1;cases h1
  |some o=>
   rw[ho] at h1;simp only[aaZ,if_pos hi] at h1;obtain⟨_,⟨⟨⟨g1,g2⟩,g4⟩,g5⟩,g6⟩:=h1;refine⟨o,rfl,by simpa using g1,(fun cs b hsel=>by rw[hsel] at g2;cases g2),fun t ht j hj hd=> ?_,fun j hj=> ?_,fun e he hb=> ?_⟩
   .have h2:=aaV.1 g4 (.tmp t) (by simpa using ht)
    dsimp only at h2;have h3:=aaV.1 h2 j (aaX.2 hj);simp only[abw,bne_iff_ne,aaZ,decide_eq_true_eq,abx,beq_iff_eq] at h3;rcases h3 with h3|⟨h3,e,he,h4⟩
    .exact absurd hd h3
    .exact⟨h3,e,by simpa using he,h4⟩
   .have h2:=aaV.1 g5 j hj
    simp only[aaZ,decide_eq_true_eq,abx,beq_iff_eq] at h2;obtain⟨h3,e,he,h4⟩:=h2;exact⟨h3,e,by simpa using he,h4⟩
   .have h2:=abT.1 g6 e he
    rw[hb] at h2;simpa using h2
 have GV:∀i o,n<=i->ops[i]? =some o->∀j,j<n->∃e∈o.after,Region.binds .any e=true/\e.on=j:=fun i o hi ho j hj=>by
  have h1:=hs i (aa2.1 ho).1;dsimp only at h1;rw[ho] at h1;simp only[aaZ,if_neg (Nat.not_lt.2 hi)] at h1;have h2:=aaV.1 h1.2 j (aaX.2 hj);simp only[aaZ,abx,beq_iff_eq] at h2;obtain⟨e,he,h4⟩:=h2;exact⟨e,by simpa using he,h4⟩
 have fin:∀(listed:Array Bool),listed.size=ops.size->Region.ready .any ops listed=[]->∀i,i<n->listed.getD i false=true:=by
  intro listed hl hr i
  induction i using Nat.strongRecOn with
  |_ i ih=>
   intro hi;by_cases hb:listed.getD i false=true
   .exact hb
   .exfalso
    have hi':i<listed.size:=by omega
    have h0:listed.getD i true=false:=by
     simp[hi'] at hb ⊢;exact hb
    obtain⟨o,ho,_,_,_,_,dw⟩:=hop i hi;have hm:i∈Region.ready .any ops listed:=by
     rw[mem_ready];refine⟨h0,o,ho,fun e he hbd=> ?_⟩;have:=dw e he hbd;exact ih e.on this (by omega)
    rw[hr] at hm;cases hm
 have key:∀(fuel:Nat) (listed:Array Bool) (ρ:Nat->Value) (lo hi:Nat->Nat) (w:World),listed.size=ops.size->listed.toList.count false=fuel->Below w0.heap.size w0 w->
  (∀i,n<=i->listed.getD i false=false)->
  (∀i,i<n->listed.getD i false=true->w0.heap.size<=lo i/\lo i<=hi i/\hi i<=w.heap.size/\(sp i).post (ρ i) ((sp i).deps.map ρ) (lo i) (hi i) w/\∀j∈(sp i).deps,listed.getD j false=true)->
  (∀i j,i<n->j<n->listed.getD i false=true->listed.getD j false=true->i≠j->hi i<=lo j\/hi j<=lo i)->
  wpAny P .any ops Q fuel listed (part ops a0 ρ (fun j=>listed.getD j false) n) w:=by
  have last:∀(listed:Array Bool) (ρ:Nat->Value) (lo hi:Nat->Nat) (w:World),listed.size=ops.size->Below w0.heap.size w0 w->
   (∀i,n<=i->listed.getD i false=false)->
   (∀i,i<n->listed.getD i false=true->w0.heap.size<=lo i/\lo i<=hi i/\hi i<=w.heap.size/\(sp i).post (ρ i) ((sp i).deps.map ρ) (lo i) (hi i) w/\∀j∈(sp i).deps,listed.getD j false=true)->
   (∀i j,i<n->j<n->listed.getD i false=true->listed.getD j false=true->i≠j->hi i<=lo j\/hi j<=lo i)->
   (∀i,i<n->listed.getD i false=true)->wpAny P .any ops Q (listed.toList.count false) listed (part ops a0 ρ (fun j=>listed.getD j false) n) w:=by
   intro listed ρ lo hi w hl hb hno hg hd hall;have e:∀k,k<=n->part ops a0 ρ (fun j=>listed.getD j false) k=canon ops a0 ρ k:=by
    intro k
    induction k with
    |zero=>exact fun _=>rfl
    |succ k ih=>
     intro hk;unfold part canon;rw[ih (by omega),hall k (by omega),if_pos rfl]
   have e2:listed=heads ops.size n:=by
    apply Array.ext
    .simp[heads,hl];omega
    .intro i h1 h2
     by_cases hi:i<n
     .have:=hall i hi
      simp[h1] at this;rw[this];simp[heads,hi]
     .have:=hno i (by omega)
      simp[h1] at this;rw[this];simp[heads,List.getElem_append,hi]
   have e3:(heads ops.size n).toList.count false=ops.size-n:=by simp[heads,List.count_append,List.count_replicate]
   rw[e _ (aaD _),e2,e3];exact hend ρ lo hi w _ rfl (pL n) (fun j t hj hd ht=>by
    rw[bF,gK hd (fun i hi=>hone i j t hi hd) rfl n hj,if_pos (by rw[hN];exact ht)]) (fun t ht=>by
    rw[bF,dy n fun j hj _=>by
     have:=aaV.1 ht j (aaX.2 hj);simpa using this]) hb (fun i hi=>by
    obtain⟨h1,h2,h3,h4,_⟩:=hg i hi (hall i hi);exact⟨h1,h2,h3,h4⟩) fun i j hi hj=>hd i j hi hj (hall i hi) (hall j hj)
  intro fuel
  induction fuel with
  |zero=>
   intro listed ρ lo hi w hl hc hb hno hg hd;have hall:∀i,i<n->listed.getD i false=true:=fun i hi=>by
    have hm:¬false∈listed.toList:=fun h=>by
     have:=abJ.2 h;omega
    have hi':i<listed.size:=by omega
    by_cases sX:listed[i]=true
    .simp[hi',sX]
    .exfalso
     have e:listed[i]=false:=by simpa using sX
     exact hm (by rw[<-e];simp)
   have:=last listed ρ lo hi w hl hb hno hg hd hall;rw[hc] at this;exact this
  |succ fuel ih=>
   intro listed ρ lo hi w hl hc hb hno hg hd;by_cases hall:∀i,i<n->listed.getD i false=true
   .have:=last listed ρ lo hi w hl hb hno hg hd hall
    rw[hc] at this;exact this
   refine⟨fun hr=>absurd (fin listed hl hr) hall,fun i hi=> ?_⟩;have xO:=hi;rw[mem_ready] at hi;obtain⟨h0,o,ho,cA⟩:=hi;have Vb:=(aa2.1 ho).1;have hin:i<n:=by
    rcases abk i n with h|h
    .exact h
    .exact absurd (fun j hj=>by
      obtain⟨e,he,hbd,rfl⟩:=GV i o h ho j hj;exact cA e he hbd) hall
   have hi':i<listed.size:=by omega
   obtain⟨o',ho',hgd,hsel,hread,Ev,_⟩:=hop i hin;rw[ho] at ho';cases ho';have eI:listed.getD i false=false:=by
    simp[hi'] at h0 ⊢;exact h0
   have rB:∀j∈(sp i).deps,listed.getD j false=true:=fun j hj=>by
    obtain⟨_,e,he,hbd,rfl⟩:=Ev j hj;exact cA e he hbd
   have hev:execOp (part ops a0 ρ (fun j=>listed.getD j false) n).eval o=execOp (canon ops a0 ρ i).eval o:=by
    refine execOp_congr o hsel fun x hx=> ?_
    cases x with
    |tmp t=>
     refine jM (fun i j hij=>hone i j t hij) (by omega) fun j hj hd=> ?_
     obtain⟨h1,e,he,hbd,rfl⟩:=hread t hx j (by omega) hd;exact⟨h1,cA e he hbd⟩
    |_=>rfl
   have ng:=hstep i o ρ w (canon ops a0 ρ i).eval hin ho hb (fun j hj=>by
    have hjl:=(Ev j hj).1;obtain⟨h1,h2,h3,h4,_⟩:=hg j (by omega) (rB j hj);exact⟨lo j,hi j,h1,h2,h3,h4⟩) (fun j t hj hd ht=>by
    rw[bF,gK hd (fun i hi=>hone i j t hi hd) rfl i hj,if_pos (by rw[hN];exact ht)]) (fun t ht=>by
    rw[bF,dy i fun j hj _=>by
     have:=aaV.1 ht j (aaX.2 hj);simpa using this]) (fun v=>rfl) (fun f=>rfl)
   unfold wpOp;rw[ho];dsimp only;have hw:Region.wanted o (yielded ops (part ops a0 ρ (fun j=>listed.getD j false) n).tmps)=true:=by
    unfold Region.wanted;rw[hgd]
   rw[if_pos hw];refine .inl ?_;have pY:cX P o (part ops a0 ρ (fun j=>listed.getD j false) n).eval w fun v w'=>Below w.heap.size w w'/\(sp i).post v ((sp i).deps.map ρ) w.heap.size w'.heap.size w':=by
    unfold cX at ng ⊢;rw[hev];exact ng
   refine pY.wp fun v w' hv=> ?_
   obtain⟨cm,hpost⟩:=hv;have xU:o.dst=dst ops i:=by unfold dst;rw[ho];rfl
   have cP:∀j,(listed.setIfInBounds i true).getD j false=if j=i then true else listed.getD j false:=fun j=>by
    by_cases e:j=i
    .subst e
     rw[if_pos rfl];simp[hi']
    .rw[if_neg e]
     exact getD_set_ne false (fun h=>e h.symm)
   rw[xU,n4 hone eI hin,jL (L':=fun j=>(listed.setIfInBounds i true).getD j false) (ρ':=upd ρ i v) (fun j=>(cP j).symm) (fun _ _=>rfl)];have hsz:=cm.size;have hb0:=hb.size;have Mr:∀j,j≠i->listed.getD j false=true->(∀k∈(sp j).deps,listed.getD k false=true)->(sp j).deps.map (upd ρ i v)=(sp j).deps.map ρ:=fun j hj hjl hk=>by
    refine aby fun k hkm=> ?_
    unfold upd;rw[if_neg];intro e;subst e;rw[hk k hkm] at eI;cases eI
   have Sh:(sp i).deps.map (upd ρ i v)=(sp i).deps.map ρ:=aby fun k hkm=>by
    unfold upd;rw[if_neg];intro e;subst e;rw[rB k hkm] at eI;cases eI
   refine ih (listed.setIfInBounds i true) (upd ρ i v) (o9 lo i w.heap.size) (o9 hi i w'.heap.size) w' (by simpa using hl) ?_ (hb.trans (cm.mono hb0)) (fun j hj=>by rw[cP,if_neg (by omega)];exact hno j hj) ?_ ?_
   .rw[ab4]
    have hi2:i<listed.toList.length:=by simpa using hi'
    have e:listed.toList[i]=false:=by
     simp[hi'] at h0;simpa using h0
    have hpos:0<listed.toList.count false:=abJ.2 (by rw[<-e];exact ab6 hi2);rw[acQ hi2,e,if_pos (by decide),if_neg (by decide)];omega
   .intro j hj hjl
    rw[cP] at hjl;by_cases e:j=i
    .subst e
     unfold o9;rw[if_pos rfl,if_pos rfl];refine⟨hb0,hsz,aaD _,?_,fun k hk=>by rw[cP];split;rfl;exact rB k hk⟩;rw[Sh];unfold upd;rw[if_pos rfl];exact hpost
    .rw[if_neg e] at hjl
     obtain⟨h1,h2,h3,h4,h5⟩:=hg j hj hjl;unfold o9;rw[if_neg e,if_neg e];refine⟨h1,h2,by omega,?_,fun k hk=>by rw[cP];split;rfl;exact h5 k hk⟩;rw[Mr j e hjl h5];unfold upd;rw[if_neg e];exact GH j hj _ _ _ _ w w' h3 cm h4
   .intro j k hj hk hjl hkl hjk
    rw[cP] at hjl hkl;unfold o9;by_cases e:j=i
    .subst e
     rw[if_neg (fun h=>hjk h.symm)] at hkl;rw[if_pos rfl,if_pos rfl,if_neg (fun h=>hjk h.symm),if_neg (fun h=>hjk h.symm)];exact .inr (hg k hk hkl).2.2.1
    .rw[if_neg e] at hjl
     by_cases e2:k=i
     .subst e2
      rw[if_neg e,if_neg e,if_pos rfl,if_pos rfl];exact .inl (hg j hj hjl).2.2.1
     .rw[if_neg e2] at hkl
      rw[if_neg e,if_neg e,if_neg e2,if_neg e2];exact hd j k hj hk hjl hkl hjk
 have hnone:∀j,(Array.replicate ops.size false).getD j false=false:=fun j=>by by_cases hk:j<ops.size<;>simp[hk]
 have h0:part ops a0 (fun _=>undef) (fun j=>(Array.replicate ops.size false).getD j false) n=a0:=by
  have:∀k,part ops a0 (fun _=>undef) (fun j=>(Array.replicate ops.size false).getD j false) k=a0:=by
   intro k
   induction k with
   |zero=>rfl
   |succ k ih=>
    unfold part;rw[ih,hnone k,if_neg (by decide)]
  exact this _
 have hk:=key ops.size (Array.replicate ops.size false) (fun _=>undef) (fun _=>0) (fun _=>0) w0 (by simp) (by simp) (aaE _ _) (fun i _=>hnone i) (fun i _ h=>by rw[hnone i] at h;cases h) (fun i _ _ _ h=>by rw[hnone i] at h;cases h);rw[h0] at hk;exact hk
end aI
end
section
open Go.Proofs.Tryz
open Go.RowKit
theorem Nz (n:Nat) (hn:n<4294967296):bits .and .u64 (n:Int) 4294967295=(n:Int):=by
 have h1:(BitVec.ofInt 64 (n:Int)).toNat=n:=by
  rw[BitVec.ofInt_natCast,BitVec.toNat_ofNat];exact abd (by omega)
 have h2:(BitVec.ofInt 64 (4294967295:Int)).toNat=4294967295:=by decide
 show IntKind.u64.wrap ((BitVec.ofInt 64 (n:Int) &&& BitVec.ofInt 64 (4294967295:Int)).toNat:Int)=_;rw[BitVec.toNat_and,h1,h2];have h3:n &&& 4294967295=n:=by
  have:=Nat.and_two_pow_sub_one_eq_mod n 32;rw[show(2 ^ 32-1:Nat)=4294967295 by decide] at this;rw[this];exact abd (by omega)
 rw[h3,ac3];omega
theorem Gq (n:Nat) (w:World) (hn:n<=1048576):
 Calls prog 246 #[.int .u64 1,.int .u64 (n:Int)] w fun e w'=>e= .returned (.tuple #[.int .u64 0,.int .u64 (n:Int)])/\w'=w:=by
 have h1:=Nz n (by omega);have h2:bits .and .u64 (1:Int) 4294967295=1:=by decide
 have h3:bits .and .u64 (0:Int) 4294967295=0:=by decide
 have h4:IntKind.u64.wrap (n:Int)=(n:Int):=by rw[ac3];omega
 go_enter func246,ntmps246;have h5:(n:Int)/4294967296=0:=by omega
 go_wp2;go_ret2;exact⟨rfl,rfl⟩
theorem L8 (n:Nat) (w:World) (hn:n<=1048576):
 Calls prog 189 #[.int .u64 1,.int .u64 (n:Int)] w fun e w'=>e= .returned (.tuple #[.int .u64 0,.int .u64 (n:Int)])/\w'=w:=by
 have HM:=ζ (Gq n w hn);go_enter func189,ntmps189;go_wp2_with (go_at_call 246;refine HM.out.mono ?_;rintro e w' ⟨rfl,rfl⟩);go_ret2;exact⟨rfl,rfl⟩
namespace Ro
def rep (z:Int) (n k:Nat):List Int:=List.replicate k z++List.replicate (n-k) 0
theorem OL {z:Int} {n k j:Nat} (hj:j<k):(rep z n k)[j]? =some z:=by
 unfold rep;rw[aaU (by simpa using hj),abB,if_pos hj]
theorem Dm (z:Int) {n k c:Nat} (h:k+c<=n):splice ((rep z n k).map (Value.int .i64)) k (List.replicate c (Value.int .i64 z))=(rep z n (k+c)).map (Value.int .i64):=by
 unfold splice rep;simp only[abh,acR,abI];rw[List.take_append_of_le_length (by simp),aa3 (by simp),List.drop_append,abZ (by simp),abA,abI,List.drop_replicate,<-abr,List.replicate_append_replicate]
 congr 2
 omega
end Ro
def yK (z:Int) (n:Nat) (w:World) (e:Ending) (w':World):Prop:=∃g,e= .returned (.slice (some ⟨g,0,none⟩) n n)/\w.heap.size<=g/\aq w' g (List.replicate n z)/\Below w.heap.size w w'
theorem Ak:(prog.info? 3).map (·.size)=some 1:=by kernel_rfl
theorem pE (W:World) (g n k c:Nat) (z:Int) (dp sp:Option Addr) (dLen dCap sLen sCap:Nat) (hI:aq W g (Ro.rep z n k)) (hk:k+c<=n) (hc:c=Nat.min sLen dLen) (hd:0<c->dp=some ⟨g,k,none⟩) (hs:0<c->∃ad,sp=some ad/\∀j,j<c->W.cell? (ad.add j)=some (.int .i64 z)) (ty:TypeId):
 ∃w',(Builtin.copy_ #[55,55] ty #[.slice dp dLen dCap,.slice sp sLen sCap]).run prog W= .ok (goInt c) w'/\aq w' g (Ro.rep z n (k+c))/\∀B,B<=g->Below B W w':=by
 by_cases h0:c=0
 .subst h0
  exact⟨W,run_copy_none (P:=prog) W 55 55 ty 3 dp sp dLen dCap sLen sCap Tryz.underlying55 Ak hc.symm,hI,fun B _=>aaE _ _⟩
 .obtain rfl:=hd (by omega)
  obtain⟨ad,rfl,hcell⟩:=hs (by omega)
  have hrun:=run_copy_row (P:=prog) W 55 55 ty 3 g k dLen dCap ad sLen sCap ((Ro.rep z n k).map (Value.int .i64)).toArray 3 (List.replicate c (Value.int .i64 z)) Tryz.underlying55 Ak hI (by rw[abI];exact hc)
   (fun j v hj=>by
     rw[abB] at hj
     split at hj
     .cases hj
      exact hcell j (by assumption)
     .cases hj) (by simp[Ro.rep];omega) (fun v hv=>by rw[abW hv];rfl)
  rw[abI] at hrun;refine⟨_,hrun,?_,fun B hB=>⟨rfl,rfl,rfl,by simp[World.setRow],fun q hq=>setRow_other W g q _ (by omega)⟩⟩;unfold aq;rw[setRow_heap W g _ _ 3 _ hI,<-Ro.Dm z hk];unfold splice;rw[abI,abr]
theorem Dl (z:Int) (b n:Nat) (w:World) (hc:w.cell? ⟨b,0,none⟩=some (.int .i64 z)) (hn:n<=1048576):
 Calls prog 128 #[.slice (some ⟨b,0,none⟩) 1 1,.int .i64 (n:Int)] w (yK z n w):=by
 obtain⟨i0,hi,hz0,hz1,hz2⟩:=info_parts Tryz.ck;have h4:IntKind.u64.wrap (n:Int)=(n:Int):=by rw[ac3];omega
 have h5:IntKind.i64.wrap (n:Int)=(n:Int):=by rw[aaK];omega
 have h6:¬(9223372036854775807:Int)<(n:Int):=by omega
 have hn0:¬(n:Int)<0:=by omega
 have HM:=ζ (L8 n w hn);have HC:=ζ hc;clear hc;go_enter func128,ntmps128
 go_wp2_with (first
  |(go_at_call 189;refine HM.out.mono ?_;rintro e w' ⟨rfl,hw⟩;obtain rfl:=hw.symm)
  |(at_make;refine wpList_make_full _ rfl _ _ 55 rfl w.heap.size 3 i0 (.int .i64 0) 1 Tryz.underlying55 hi hz0 hz1 _ _ _ _ n rfl rfl rfl rfl (by rw[hz2];omega) (by unfold maxLen;omega) (aaD _) ?_;refine aaH ?_))
 refine ζ ?_;intro w2 hrow hg2;rw[dz] at hrow;have hb2:Below w.heap.size w w2:=(aaE _ _).grown hg2 (aaD _) (fun j hj=>by cases hj);have hI:aq w2 w.heap.size (Ro.rep z n 0):=by
  unfold Ro.rep;simpa using fJ hrow
 have hc2:=(hb2.cell (p:=⟨b,0,none⟩) (block_lt_of_cell HC.out)).trans HC.out;have hmin:Nat.min 1 n<=n:=Nat.min_le_right _ _;obtain⟨c,hcm⟩:∃c,c=Nat.min 1 n:=⟨_,rfl⟩;rw[<-hcm] at hmin;have hc1:c<=1:=by rw[hcm];exact Nat.min_le_left _ _
 have hc3:n≠0->0<c:=fun h=>by
  rw[hcm];show 0<min 1 n;omega
 obtain⟨w3,hrun,Sz,hb3⟩:=pE w2 w.heap.size n 0 c z (some ⟨w.heap.size,0,none⟩) (some ⟨b,0,none⟩) n n 1 1 hI (by omega) hcm (fun _=>rfl) (fun _=>⟨_,rfl,fun j hj=>by
  obtain rfl:j=0:=by omega
  exact hc2⟩) 3
 rw[aa7] at Sz;have tI:=ζ Sz;have aK:=ζ (hb2.trans (hb3 _ (aaD _)));have P0:=ζ hc3;clear hrow hg2 hb2 hI hc2 hcm Sz hb3 hc3;go_wp2;go_loopw [8] (fun x wr=>∃k:Nat,k<=n/\(n≠0->0<k)/\x= .int .i64 (k:Int)/\aq wr w.heap.size (Ro.rep z n k)/\Below w.heap.size w wr) (fun x _=>n-(intOf x).toNat)
 case atStart=>exact⟨c,hmin,P0.out,rfl,tI.out,aK.out⟩
 case round=>
  clear hrun tI aK P0;obtain⟨k,hk,hk0,rfl,hik,hb⟩:=hrel;have HI:=ζ hik;have HB:=ζ hb;clear hik hb;by_cases hlt:k<n
  .have aX:(k:Int)<(n:Int):=by omega
   have hkp:0<k:=hk0 (by omega);obtain⟨c',hc'⟩:∃c',c'=Nat.min k (n-k):=⟨_,rfl⟩;have aax:c'<=k:=by rw[hc'];exact Nat.min_le_left _ _
   have Qv:k+c'<=n:=by
    have:c'<=n-k:=by rw[hc'];exact Nat.min_le_right _ _
    omega
   have aaw:0<c':=by
    rw[hc'];show 0<min k (n-k);omega
   obtain⟨w4,hrun,VJ,hb4⟩:=pE wr.drew w.heap.size n k c' z (some ⟨w.heap.size,k,none⟩) (some ⟨w.heap.size,0,none⟩) (n-k) (n-k) k n HI.out Qv hc' (fun _=>rfl) (fun _=>⟨_,rfl,fun j hj=>by
    have ea:((⟨w.heap.size,0,none⟩:Addr).add j)=⟨w.heap.size,j,none⟩:=by
     by_cases h0:j=0<;>simp[Addr.add,h0]
    rw[ea];exact HI.out.cell (Ro.OL (by omega))⟩) 3
   have Tn:=ζ VJ;have eZ:=ζ (HB.out.trans (((aaE _ _).drew).trans (hb4 _ (aaD _))));clear VJ hb4 hc';go_wp2_with fail
   go_region
   clear hrun;go_wp2;go_roundw
   case rel=>exact⟨k+c',Qv,fun _=>by omega,by simp,Tn.out,eZ.out⟩
   case measure=>simp[intOf];omega
  .have aX:¬(k:Int)<(n:Int):=by omega
   obtain rfl:k=n:=by omega
   go_wp2;go_ret;refine⟨_,rfl,aaD _,?_,HB.out⟩;have h1:=HI.out;unfold Ro.rep at h1;simpa using h1
end
end Go.Proofs.YtdbjpbjocmcpkaaGreatDoor
