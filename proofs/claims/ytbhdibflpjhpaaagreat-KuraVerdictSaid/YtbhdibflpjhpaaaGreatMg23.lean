import Derived.Test.YtbhdibflpjhpaaaGreatMg22
import Derived.Laws.Bits64b
import Derived.Laws.CopyOwn
set_option maxHeartbeats 4000000
set_option maxRecDepth 100000
namespace Go.Proofs.YtbhdibflpjhpaaaGreat
section
open Go.Proofs.Tryz
open Go.RowKit
structure Wp where
 n:Nat
 es:List (Int×Int)
 s:Df.St
 ao:Option Addr
 ca:Nat
 f:For
 lv:Value
 l2:Value
 l3:Value
 vo:Value
 vs:List Value
structure dG (c:Wp) (p:Nat) (W:World):Prop where
 blk:W.heap[p]? =some (.cells #[.int .i64 (c.n:Int),.slice c.ao c.es.length c.ca,.slice c.f.a1 c.n c.f.c1,.slice c.f.a2 c.n c.f.c2,.slice c.f.a3 c.n c.f.c3,.slice c.f.a4 c.es.length c.f.c4,c.lv,c.l2,c.l3,c.vo] 106 (0,0))
 edg:aN W c.ao c.es
 bT:mV W c.f c.s
 val:Si.Val c.n c.es
 vf:Df.VF c.n c.es c.s
 low:aH W 0 c.lv (upTo (Lo.low c.es c.s) c.es.length)
 out:aU W 0 c.vo c.vs (Lo.bY c.n c.es c.s c.es.length)
section
variable {c:Wp} {p:Nat} {W V:World}
theorem dG.lt (h:dG c p W):p<W.heap.size:=lt_of_block h.blk
theorem dG.later (h:dG c p W) (hb:Below W.heap.size W V):dG c p V:=⟨(hb.block p h.lt).trans h.blk,h.edg.later hb,h.bT.later hb,h.val,h.vf,h.low.later hb,h.out.later hb⟩
theorem dG.c1 (h:dG c p W):W.cell? ⟨p,1,none⟩=some (.slice c.ao c.es.length c.ca):=by simp[World.cell?,h.blk]
theorem dG.c2 (h:dG c p W):W.cell? ⟨p,2,none⟩=some (.slice c.f.a1 c.n c.f.c1):=by simp[World.cell?,h.blk]
theorem dG.c3 (h:dG c p W):W.cell? ⟨p,3,none⟩=some (.slice c.f.a2 c.n c.f.c2):=by simp[World.cell?,h.blk]
theorem dG.c4 (h:dG c p W):W.cell? ⟨p,4,none⟩=some (.slice c.f.a3 c.n c.f.c3):=by simp[World.cell?,h.blk]
theorem dG.c5 (h:dG c p W):W.cell? ⟨p,5,none⟩=some (.slice c.f.a4 c.es.length c.f.c4):=by simp[World.cell?,h.blk]
theorem dG.c6 (h:dG c p W):W.cell? ⟨p,6,none⟩=some c.lv:=by simp[World.cell?,h.blk]
theorem dG.c9 (h:dG c p W):W.cell? ⟨p,9,none⟩=some c.vo:=by simp[World.cell?,h.blk]
theorem dG.par (h:dG c p W) {v:Nat} (hv:v<c.n):∃b o,c.f.a1=some ⟨b,o,none⟩/\∀V,Below W.heap.size W V->∀i,i<c.n->V.cell? ⟨b,o+i,none⟩=some (.int .i64 (Df.at_ c.s.par i)):=by
 have l:=h.vf.lens;obtain⟨b,o,e,-⟩:=dm h.bT.l1 (i:=v) (by rw[l.1];exact hv);refine⟨b,o,e,fun W hW i hi=> ?_⟩;obtain⟨b',o',e',d'⟩:=dm (h.bT.later hW).l1 (i:=i) (by rw[l.1];exact hi);rw[e] at e';cases e';exact d'
theorem dG.ay (h:dG c p W) {v:Nat} (hv:v<c.n):∃b o,c.f.a2=some ⟨b,o,none⟩/\∀V,Below W.heap.size W V->∀i,i<c.n->V.cell? ⟨b,o+i,none⟩=some (.int .i64 (Df.at_ c.s.ay i)):=by
 have l:=h.vf.lens;obtain⟨b,o,e,-⟩:=dm h.bT.l2 (i:=v) (by rw[l.2.1];exact hv);refine⟨b,o,e,fun W hW i hi=> ?_⟩;obtain⟨b',o',e',d'⟩:=dm (h.bT.later hW).l2 (i:=i) (by rw[l.2.1];exact hi);rw[e] at e';cases e';exact d'
theorem dG.ord (h:dG c p W) {v:Nat} (hv:v<c.n):∃b o,c.f.a3=some ⟨b,o,none⟩/\∀V,Below W.heap.size W V->∀i,i<c.n->V.cell? ⟨b,o+i,none⟩=some (.int .i64 (Df.at_ c.s.ord i)):=by
 have l:=h.vf.lens;obtain⟨b,o,e,-⟩:=dm h.bT.l3 (i:=v) (by rw[l.2.2.1];exact hv);refine⟨b,o,e,fun W hW i hi=> ?_⟩;obtain⟨b',o',e',d'⟩:=dm (h.bT.later hW).l3 (i:=i) (by rw[l.2.2.1];exact hi);rw[e] at e';cases e';exact d'
theorem dG.aT (h:dG c p W) {v:Nat} (hv:v<c.es.length):∃b o,c.f.a4=some ⟨b,o,none⟩/\∀V,Below W.heap.size W V->∀i,i<c.es.length->V.cell? ⟨b,o+i,none⟩=some (.int .i64 (Df.at_ c.s.aT i)):=by
 have l:=h.vf.lens;obtain⟨b,o,e,-⟩:=dm h.bT.l4 (i:=v) (by rw[l.2.2.2];exact hv);refine⟨b,o,e,fun W hW i hi=> ?_⟩;obtain⟨b',o',e',d'⟩:=dm (h.bT.later hW).l4 (i:=i) (by rw[l.2.2.2];exact hi);rw[e] at e';cases e';exact d'
theorem dG.aau (h:dG c p W) {v:Nat} (hv:v<c.es.length):∃b cap,c.lv= .slice (some ⟨b,0,none⟩) c.es.length cap/\∀V,Below W.heap.size W V->∀i,i<c.es.length->V.cell? ⟨b,i,none⟩=some (.int .i64 (Lo.low c.es c.s i)):=by
 have hl:=h.low;unfold aH at hl;rw[gm] at hl;rcases hl.2 with ⟨_,h0⟩|⟨g,cap,cur,e,_⟩
 .omega
 .refine⟨g,cap,e,fun V hV i hi=> ?_⟩
  have hl2:=h.low.later hV;unfold aH at hl2;rw[gm,e] at hl2;have:=ac1 hl2 (g:=g) rfl i (.int .i64 (Lo.low c.es c.s i)) (by rw[abU,iR hi];rfl);have ea:((⟨g,0,none⟩:Addr).add i)=⟨g,i,none⟩:=by
   by_cases h0:i=0<;>simp[Addr.add,h0]
  rw[ea] at this;exact this
theorem Ct (h:dG c p W) {u:Nat} (hu:u<2*c.es.length):Calls prog 76 #[.pointer (some ⟨p,0,none⟩),.int .i64 (u:Int)] W fun e w'=>e= .returned (.int .i64 (Cs.to c.es u:Int))/\w'=W:=by
 have c1:=h.c1;have dH:=h.val.few;obtain⟨k,hk⟩:∃k,u/2=k:=⟨_,rfl⟩;have hkl:k<c.es.length:=by omega
 obtain⟨q,hq⟩:∃q,c.es[k]? =some q:=⟨_,aac hkl⟩;obtain⟨b,o,eb,d0,d1⟩:=h.edg k q hq;have hok:=h.val.each k q hq;unfold Si.ok at hok;rw[eb] at c1;have k1:((u:Int)).tdiv 2=(k:Int):=by rw[acG (by omega)];omega
 have k2:(u:Int)/2=(k:Int):=by omega
 have v0:(0:Int)<=(k:Int):=by omega
 have v2:(k:Int)<=4194304:=by omega
 have v1:(k:Int)<(c.es.length:Int):=by omega
 rcases adw u with hm|hm
 .have hto:(Cs.to c.es u:Int)=q.2:=by
   have:=(Cs.eP hq).2;rw[show 2*k=u by omega] at this;rw[this];omega
  have k3:((u:Int)).tmod 2=0:=by rw[aeL (by omega)];omega
  have k4:(u:Int)%2=0:=by omega
  rw[hto];clear h hq eb hok hm hto dH;go_enter func76,ntmps76;go_wp2;go_ret;exact⟨rfl,rfl⟩
 .have hto:(Cs.to c.es u:Int)=q.1:=by
   have:=(Cs.pN hq).2;rw[show 2*k+1=u by omega] at this;rw[this];omega
  have k3:((u:Int)).tmod 2=1:=by rw[aeL (by omega)];omega
  have k4:(u:Int)%2=1:=by omega
  rw[hto];clear h hq eb hok hm hto dH;go_enter func76,ntmps76;go_wp2;go_ret;exact⟨rfl,rfl⟩
theorem xN (h:dG c p W) {u:Nat} (hu:u<2*c.es.length):Calls prog 110 #[.pointer (some ⟨p,0,none⟩),.int .i64 (u:Int)] W fun e w'=>e= .returned (.int .i64 (Cs.fr c.es u:Int))/\w'=W:=by
 have dH:=h.val.few;have hxt:=Cs.uI u (by omega);have hto:=Ct h (Cs.iW hu);have e1:Cs.to c.es (Cs.twin u)=Cs.fr c.es u:=by
  have h1:=Cs.iB c.es (Cs.twin u);have h2:Cs.twin (Cs.twin u)=u:=by
   unfold Cs.twin
   split<;>split<;>omega
  rw[h2] at h1;exact h1.symm
 rw[e1] at hto;have pF:=ζ hto;clear h hto e1 dH;go_enter func110,ntmps110;go_wp2_with (go_at_call 76;refine pF.out.mono ?_;rintro e w1 ⟨rfl,rfl⟩);go_ret;exact⟨rfl,rfl⟩
theorem nJ {u k:Nat} (hk:u/2=k):((u:Int)).tdiv 2=(k:Int)/\(u:Int)/2=(k:Int):=by
 rw[acG (by omega)];omega
theorem Cv (h:dG c p W) {u:Nat} (hu:u<2*c.es.length):Calls prog 54 #[.pointer (some ⟨p,0,none⟩),.int .i64 (u:Int)] W fun e w'=>e= .returned (.bool (decide (Df.at_ c.s.par (Cs.to c.es u)≠(u:Int))))/\Below W.heap.size W w':=by
 have hl:=Cs.bI h.val hu;obtain⟨b,o,ef,hc⟩:=h.par hl.2;have c2:∀D:LW W,D.val.cell? ⟨p,2,none⟩=some (.slice (some ⟨b,o,none⟩) c.n c.f.c1):=fun D=>by have:=(h.later D.h).c2;rwa[ef] at this
 obtain⟨t,ht⟩:∃t,Cs.to c.es u=t:=⟨_,rfl⟩;rw[ht] at hl ⊢;obtain⟨x,hx⟩:∃x,Df.at_ c.s.par t=x:=⟨_,rfl⟩;rw[hx];have d2:∀D:LW W,D.val.cell? ⟨b,o+t,none⟩=some (.int .i64 x):=fun D=>by rw[<-hx];exact hc D.val D.h _ hl.2
 have pF:Hid (∀D:LW W,Calls prog 76 #[.pointer (some ⟨p,0,none⟩),.int .i64 (u:Int)] D.val fun e w'=>e= .returned (.int .i64 (t:Int))/\Below D.val.heap.size D.val w'):=fun D=>(Ct (h.later D.h) hu).mono fun e w' ⟨he,hw⟩=>⟨by rw[he,ht],by rw[hw];exact aae _ _⟩
 have t0:(0:Int)<=(t:Int):=by omega
 have t1:(t:Int)<(c.n:Int):=by omega
 have hne:=LW.any W;have bX:Hid (∀D:LW W,Below W.heap.size W D.val):=fun D=>D.h
 clear h hc ef ht hx;go_enter func54,ntmps54;go_wp2_with fail;refine aG (by kernel_rfl) (by kernel_rfl) ?_
 repeat (go_big_quiet_step ((first|(go_at_call 76;exact Calls.lw (pF.out _)))))
 refine wpQuiet_nil ?_;rintro _ ⟨D,rfl⟩;clear c2 d2;go_wp2;go_ret;refine⟨?_,bX.out D⟩;by_cases hxu:x=(u:Int)<;>simp[hxu]
theorem xO (h:dG c p W) {u:Nat} (hu:u<2*c.es.length):Calls prog 92 #[.pointer (some ⟨p,0,none⟩),.int .i64 (u:Int)] W fun e w'=>e= .returned (.int .i64 (Df.at_ c.s.ay (Cs.fr c.es u)))/\Below W.heap.size W w':=by
 have hl:=Cs.bI h.val hu;obtain⟨b,o,ef,hc⟩:=h.ay hl.1;have c2:∀D:LW W,D.val.cell? ⟨p,3,none⟩=some (.slice (some ⟨b,o,none⟩) c.n c.f.c2):=fun D=>by have:=(h.later D.h).c3;rwa[ef] at this
 obtain⟨t,ht⟩:∃t,Cs.fr c.es u=t:=⟨_,rfl⟩;rw[ht] at hl ⊢;obtain⟨x,hx⟩:∃x,Df.at_ c.s.ay t=x:=⟨_,rfl⟩;rw[hx];have d2:∀D:LW W,D.val.cell? ⟨b,o+t,none⟩=some (.int .i64 x):=fun D=>by rw[<-hx];exact hc D.val D.h _ hl.1
 have pF:Hid (∀D:LW W,Calls prog 110 #[.pointer (some ⟨p,0,none⟩),.int .i64 (u:Int)] D.val fun e w'=>e= .returned (.int .i64 (t:Int))/\Below D.val.heap.size D.val w'):=fun D=>(xN (h.later D.h) hu).mono fun e w' ⟨he,hw⟩=>⟨by rw[he,ht],by rw[hw];exact aae _ _⟩
 have t0:(0:Int)<=(t:Int):=by omega
 have t1:(t:Int)<(c.n:Int):=by omega
 have hne:=LW.any W;have bX:Hid (∀D:LW W,Below W.heap.size W D.val):=fun D=>D.h
 clear h hc ef ht hx;go_enter func92,ntmps92;go_wp2_with fail;refine aG (by kernel_rfl) (by kernel_rfl) ?_
 repeat (go_big_quiet_step ((first|(go_at_call 110;exact Calls.lw (pF.out _)))))
 refine wpQuiet_nil ?_;rintro _ ⟨D,rfl⟩;clear c2 d2;go_wp2;go_ret;exact⟨rfl,bX.out D⟩
theorem E5 (h:dG c p W) {u:Nat} (hu:u<2*c.es.length):Calls prog 111 #[.pointer (some ⟨p,0,none⟩),.int .i64 (u:Int)] W fun e w'=>e= .returned (.bool (decide (Lo.low c.es c.s (u/2)<Df.at_ c.s.ay (Cs.fr c.es u))))/\Below W.heap.size W w':=by
 have dH:=h.val.few;obtain⟨k,hk⟩:∃k,u/2=k:=⟨_,rfl⟩;have hkl:k<c.es.length:=by omega
 obtain⟨b,cap,ef,hc⟩:=h.aau hkl;have c2:∀D:LW W,D.val.cell? ⟨p,6,none⟩=some (.slice (some ⟨b,0,none⟩) c.es.length cap):=fun D=>by have:=(h.later D.h).c6;rwa[ef] at this
 rw[hk];obtain⟨x,hx⟩:∃x,Lo.low c.es c.s k=x:=⟨_,rfl⟩;obtain⟨y,hy⟩:∃y,Df.at_ c.s.ay (Cs.fr c.es u)=y:=⟨_,rfl⟩;rw[hx,hy];have d2:∀D:LW W,D.val.cell? ⟨b,k,none⟩=some (.int .i64 x):=fun D=>by rw[<-hx];exact hc D.val D.h _ hkl
 have pF:Hid (∀D:LW W,Calls prog 92 #[.pointer (some ⟨p,0,none⟩),.int .i64 (u:Int)] D.val fun e w'=>e= .returned (.int .i64 y)/\Below D.val.heap.size D.val w'):=fun D=>(xO (h.later D.h) hu).mono fun e w' ⟨he,hw⟩=>⟨by rw[he,hy],hw⟩
 obtain⟨k1,k2⟩:=nJ hk;have v0:(0:Int)<=(k:Int):=by omega
 have v1:(k:Int)<(c.es.length:Int):=by omega
 have v2:(k:Int)<=4194304:=by omega
 have hne:=LW.any W;have bX:Hid (∀D:LW W,Below W.heap.size W D.val):=fun D=>D.h
 clear h hc ef hx hy dH;go_enter func111,ntmps111;go_wp2_with fail;refine aG (by kernel_rfl) (by kernel_rfl) ?_
 repeat (go_big_quiet_step ((first|(go_at_call 92;exact Calls.lw (pF.out _)))))
 refine wpQuiet_nil ?_;rintro _ ⟨D,rfl⟩;clear c2 d2;go_wp2;go_ret;exact⟨rfl,bX.out D⟩
end
end
section
open Go.RowKit Lt
def dZ {α:Type} (T:TypeId) (k:Nat) (fl:α->List Value) (w:World) (B:Nat) (v:Value) (l:List α):Prop:=w.ownsRow B T k v l.length (l.flatMap fl)
section
variable {α:Type} {T:TypeId} {k:Nat} {fl:α->List Value} {w w':World} {B:Nat} {v:Value} {l:List α}
theorem dZ.lt (h:dZ T k fl w B v l) {b:Nat} (hb:v.ownBlock=some b):B<=b/\b<w.heap.size:=acj h b hb
theorem dZ.same (h:dZ T k fl w B v l) (hb:∀g,v.ownBlock=some g->g<w.heap.size->w'.heap[g]? =w.heap[g]?):dZ T k fl w' B v l:=by
 refine⟨h.1,?_⟩;rcases h.2 with h|⟨g,cap,cur,e1,hgB,hh,hr⟩
 .exact .inl h
 .exact .inr ⟨g,cap,cur,e1,hgB,(hb g (by rw[e1];rfl) (lt_of_block hh)).trans hh,hr⟩
theorem dZ.nil (w:World) (B:Nat):dZ T k fl w B (.slice none 0 0) ([]:List α):=ad6 _ _ _ _
theorem dZ.form (h:dZ T k fl w B v l):∃ao cap,v= .slice ao l.length cap/\l.length<=cap:=by
 rcases h.2 with ⟨e,h0⟩|⟨g,cap,cur,e,_,_,hc,_⟩
 .exact⟨none,0,by rw[e,h0],by omega⟩
 .exact⟨_,cap,e,hc⟩
theorem Ab (hk:∀x,(fl x).length=k):∀l:List α,(l.flatMap fl).length=l.length*k
 |[]=>by simp
 |x::l=>by
  rw[ae9,abZ,hk,Ab hk l,abS,Nat.add_mul];omega
theorem dZ.snoc (hk:∀x,(fl x).length=k) {x:α} (h:dZ T k fl w B v (l++[x])):∃g c,v= .slice (some ⟨g,0,none⟩) (l.length+1) c/\(∀j u,(fl x)[j]? =some u->w.cell? ⟨g,l.length*k+j,none⟩=some u)/\l.length+1<=c/\(∀i,w.frozen? ⟨g,i,none⟩=false)/\dZ T k fl w B (.slice (some ⟨g,0,none⟩) l.length c) l:=by
 unfold dZ at h;rw[abZ,adb,aeO] at h;obtain⟨g,c,rfl⟩:=qx h;have hfl:=Ab hk l;refine⟨g,c,rfl,fun j u hu=> ?_,?_,fun i=>World.ownsRow.frozenAt h i,?_⟩
 .have hc:=ac1 h (g:=g) rfl (l.length*k+j) u (by
   rw[acM (by omega),hfl,Nat.add_sub_cancel_left];simpa using hu)
  have ea:((⟨g,0,none⟩:Addr).add (l.length*k+j))=⟨g,l.length*k+j,none⟩:=by
   obtain⟨z,hz⟩:∃z,l.length*k+j=z:=⟨_,rfl⟩;rw[hz];by_cases h0:z=0<;>simp[Addr.add,h0]
  rw[ea] at hc;exact hc
 .rcases h.2 with ⟨h',_⟩|⟨g',cap,cur,e,_,_,hcc,_⟩
  .cases h'
  .cases e;exact hcc
 .rcases h.2 with ⟨h',_⟩|⟨g',cap,cur,e,hB,hh,hc,hm,hs,ht⟩
  .cases h'
  .cases e
   refine⟨hfl,.inr ⟨g,c,cur,rfl,hB,hh,by omega,hm,hs,?_⟩⟩;have e1:cur.toList.take (l.length*k)=(cur.toList.take ((l.length+1)*k)).take (l.length*k):=by
    rw[afQ]
    congr 1
    have:l.length*k<=(l.length+1)*k:=Nat.mul_le_mul_right _ (by omega);omega
   rw[e1,ht,adQ (by omega),acL (by omega)]
end
def Fq (p:Pr):List Value:=[.int .i64 p.1.1,.int .i64 p.1.2,.int .i64 p.2.1,.int .i64 p.2.2]
def xq (v:kC):List Value:=[.int .i64 v.1,.int .i64 v.2.1,.int .i64 v.2.2.1.1,.int .i64 v.2.2.1.2,.int .i64 v.2.2.2.1,.int .i64 v.2.2.2.2]
theorem LD (p:Pr):(Fq p).length=4:=rfl
theorem qO (v:kC):(xq v).length=6:=rfl
structure aS (c:Wp) (p t:Nat) (W0:World) (O:Nat->Prop) (st:TS) (L U Z:Nat) (vp vw:Value) (W:World):Prop where
 wk:dG c p W0
 aZ:Below W0.heap.size W0 W
 blk:W.heap[t]? =some (.cells #[.pointer (some ⟨p,0,none⟩),.slice (some ⟨L,0,none⟩) c.es.length c.es.length,.slice (some ⟨U,0,none⟩) c.es.length c.es.length,vp,vw,.slice (some ⟨Z,0,none⟩) c.es.length c.es.length] 113 (0,0))
 like:af W L st.like
 turn:af W U st.turn
 lowest:af W Z st.lowest
 ll:st.like.length=c.es.length
 lu:st.turn.length=c.es.length
 lz:st.lowest.length=c.es.length
 iX:dZ 129 4 Fq W W0.heap.size vp st.stk.reverse
 way:dZ 131 6 xq W W0.heap.size vw st.way.reverse
 oT:O t
 oL:O L
 oU:O U
 oZ:O Z
 oP:∀b,vp.ownBlock=some b->O b
 oW:∀b,vw.ownBlock=some b->O b
 oB:∀b,O b->W0.heap.size<=b
 oX:∀b,O b->b<W.heap.size
 n1:t≠L/\t≠U/\t≠Z/\L≠U/\L≠Z/\U≠Z
 n2:∀b,vp.ownBlock=some b->b≠t/\b≠L/\b≠U/\b≠Z
 n3:∀b,vw.ownBlock=some b->b≠t/\b≠L/\b≠U/\b≠Z
 n4:∀b,vp.ownBlock=some b->vw.ownBlock≠some b
def Ts (c:Wp) (p t:Nat) (W0:World) (O:Nat->Prop) (st:TS) (W:World):Prop:=∃L U Z vp vw,aS c p t W0 O st L U Z vp vw W
section
variable {c:Wp} {p t:Nat} {W0 W V:World} {O O':Nat->Prop} {st:TS} {L U Z:Nat} {vp vw:Value}
theorem aS.lt (h:aS c p t W0 O st L U Z vp vw W):t<W.heap.size:=lt_of_block h.blk
theorem aS.now (h:aS c p t W0 O st L U Z vp vw W):dG c p W:=h.wk.later h.aZ
theorem aS.same (h:aS c p t W0 O st L U Z vp vw W) (hb:Below W0.heap.size W0 V) (hs:W.heap.size<=V.heap.size) (hO:∀b,O b->b<W.heap.size->V.heap[b]? =W.heap[b]?):aS c p t W0 O st L U Z vp vw V:=
 ⟨h.wk,hb,(hO t h.oT h.lt).trans h.blk,(hO L h.oL h.like.lt).trans h.like,(hO U h.oU h.turn.lt).trans h.turn,(hO Z h.oZ h.lowest.lt).trans h.lowest,h.ll,h.lu,h.lz,h.iX.same fun g hg hl=>hO g (h.oP g hg) hl,h.way.same fun g hg hl=>hO g (h.oW g hg) hl,h.oT,h.oL,h.oU,h.oZ,h.oP,h.oW,h.oB,fun b hb'=>acU (h.oX b hb') hs,h.n1,h.n2,h.n3,h.n4⟩
theorem aS.later (h:aS c p t W0 O st L U Z vp vw W) (hb:Below W.heap.size W V):aS c p t W0 O st L U Z vp vw V:=h.same (h.aZ.trans (hb.mono h.aZ.size)) hb.size fun b _ hl=>hb.block b hl
theorem aS.more (h:aS c p t W0 O st L U Z vp vw W) (hO:∀b,O b->O' b) (hB:∀b,O' b->W0.heap.size<=b) (hX:∀b,O' b->b<W.heap.size):aS c p t W0 O' st L U Z vp vw W:=
 ⟨h.wk,h.aZ,h.blk,h.like,h.turn,h.lowest,h.ll,h.lu,h.lz,h.iX,h.way,hO _ h.oT,hO _ h.oL,hO _ h.oU,hO _ h.oZ,fun b hb=>hO b (h.oP b hb),fun b hb=>hO b (h.oW b hb),hB,hX,h.n1,h.n2,h.n3,h.n4⟩
theorem aS.cells (h:aS c p t W0 O st L U Z vp vw W):W.cell? ⟨t,0,none⟩=some (.pointer (some ⟨p,0,none⟩))/\W.cell? ⟨t,1,none⟩=some (.slice (some ⟨L,0,none⟩) c.es.length c.es.length)/\W.cell? ⟨t,2,none⟩=some (.slice (some ⟨U,0,none⟩) c.es.length c.es.length)/\W.cell? ⟨t,3,none⟩=some vp/\W.cell? ⟨t,4,none⟩=some vw/\W.cell? ⟨t,5,none⟩=some (.slice (some ⟨Z,0,none⟩) c.es.length c.es.length)/\∀i,W.frozen? ⟨t,i,none⟩=false:=by
 refine⟨by simp[World.cell?,h.blk],by simp[World.cell?,h.blk],by simp[World.cell?,h.blk],by simp[World.cell?,h.blk],by simp[World.cell?,h.blk],by simp[World.cell?,h.blk],fun i=>by simp[World.frozen?,h.blk]⟩
theorem p5 {W:World} {b:Nat} {l:List Int} {x:Nat} (h:af W b l) (hx:x<l.length):W.cell? ⟨b,x,none⟩=some (.int .i64 (l[x]?.getD 0)):=h.cell (by simp[hx])
theorem aS.CX (h:aS c p t W0 O st L U Z vp vw W) (x:Nat) (z:Int):aS c p t W0 O { st with like:=st.like.set x z } L U Z vp vw (W.setCell ⟨L,x,none⟩ (.int .i64 z)):=by
 have hk:∀b,b≠L->(W.setCell ⟨L,x,none⟩ (.int .i64 z)).heap[b]? =W.heap[b]? :=fun b hb=>heap_setCell_other W ⟨L,x,none⟩ b _ hb
 obtain⟨a1,a2,a3,a4,a5,a6⟩:=h.n1;exact⟨h.wk,h.aZ.setCell (p:=⟨L,x,none⟩) (h.oB L h.oL) _,(hk _ a1).trans h.blk,h.like.set x z,(hk _ (aao a4)).trans h.turn,(hk _ (aao a5)).trans h.lowest,by simpa using h.ll,h.lu,h.lz,h.iX.same fun g hg _=>hk g (h.n2 g hg).2.1,h.way.same fun g hg _=>hk g (h.n3 g hg).2.1,h.oT,h.oL,h.oU,h.oZ,h.oP,h.oW,h.oB,fun b hb=>by simpa using h.oX b hb,h.n1,h.n2,h.n3,h.n4⟩
theorem aS.JZ (h:aS c p t W0 O st L U Z vp vw W) (x:Nat) (z:Int):aS c p t W0 O { st with turn:=st.turn.set x z } L U Z vp vw (W.setCell ⟨U,x,none⟩ (.int .i64 z)):=by
 have hk:∀b,b≠U->(W.setCell ⟨U,x,none⟩ (.int .i64 z)).heap[b]? =W.heap[b]? :=fun b hb=>heap_setCell_other W ⟨U,x,none⟩ b _ hb
 obtain⟨a1,a2,a3,a4,a5,a6⟩:=h.n1;exact⟨h.wk,h.aZ.setCell (p:=⟨U,x,none⟩) (h.oB U h.oU) _,(hk _ a2).trans h.blk,(hk _ a4).trans h.like,h.turn.set x z,(hk _ (aao a6)).trans h.lowest,h.ll,by simpa using h.lu,h.lz,h.iX.same fun g hg _=>hk g (h.n2 g hg).2.2.1,h.way.same fun g hg _=>hk g (h.n3 g hg).2.2.1,h.oT,h.oL,h.oU,h.oZ,h.oP,h.oW,h.oB,fun b hb=>by simpa using h.oX b hb,h.n1,h.n2,h.n3,h.n4⟩
theorem aS.wO (h:aS c p t W0 O st L U Z vp vw W) (x:Nat) (z:Int):aS c p t W0 O { st with lowest:=st.lowest.set x z } L U Z vp vw (W.setCell ⟨Z,x,none⟩ (.int .i64 z)):=by
 have hk:∀b,b≠Z->(W.setCell ⟨Z,x,none⟩ (.int .i64 z)).heap[b]? =W.heap[b]? :=fun b hb=>heap_setCell_other W ⟨Z,x,none⟩ b _ hb
 obtain⟨a1,a2,a3,a4,a5,a6⟩:=h.n1;exact⟨h.wk,h.aZ.setCell (p:=⟨Z,x,none⟩) (h.oB Z h.oZ) _,(hk _ a3).trans h.blk,(hk _ a5).trans h.like,(hk _ a6).trans h.turn,h.lowest.set x z,h.ll,h.lu,by simpa using h.lz,h.iX.same fun g hg _=>hk g (h.n2 g hg).2.2.2,h.way.same fun g hg _=>hk g (h.n3 g hg).2.2.2,h.oT,h.oL,h.oU,h.oZ,h.oP,h.oW,h.oB,fun b hb=>by simpa using h.oX b hb,h.n1,h.n2,h.n3,h.n4⟩
theorem aS.PD (h:aS c p t W0 O st L U Z vp vw W) {W1:World} {v':Value} {ps:List Pr} (hb:Below W0.heap.size W0 W1) (hk:∀b,b<W.heap.size->vp.ownBlock≠some b->W1.heap[b]? =W.heap[b]?) (hsz:W.heap.size<=W1.heap.size) (hv:dZ 129 4 Fq W1 W0.heap.size v' ps.reverse) (hat:v'.ownBlock=vp.ownBlock\/∃b,v'.ownBlock=some b/\W.heap.size<=b):
 W1.cell? ⟨t,3,none⟩=some vp/\W1.frozen? ⟨t,3,none⟩=false/\W1.cell? ⟨t,0,none⟩=some (.pointer (some ⟨p,0,none⟩))/\aS c p t W0 (fun b=>(O b\/W.heap.size<=b)/\b<(W1.setCell ⟨t,3,none⟩ v').heap.size) { st with stk:=ps } L U Z v' vw (W1.setCell ⟨t,3,none⟩ v'):=by
 have hT:∀b,(b=t\/b=L\/b=U\/b=Z\/vw.ownBlock=some b)->vp.ownBlock≠some b:=fun b hb e=>by
  have:=h.n2 b e;rcases hb with k|k|k|k|k
  .exact this.1 k
  .exact this.2.1 k
  .exact this.2.2.1 k
  .exact this.2.2.2 k
  .exact h.n4 b e k
 have agf:∀b,vw.ownBlock=some b->b<W.heap.size:=fun b hb=>(h.way.lt hb).2
 have tU:W1.heap[t]? =some (.cells #[.pointer (some ⟨p,0,none⟩),.slice (some ⟨L,0,none⟩) c.es.length c.es.length,.slice (some ⟨U,0,none⟩) c.es.length c.es.length,vp,vw,.slice (some ⟨Z,0,none⟩) c.es.length c.es.length] 113 (0,0)):=(hk t h.lt (hT t (.inl rfl))).trans h.blk;have hv2:∀b,v'.ownBlock=some b->b≠t/\b≠L/\b≠U/\b≠Z:=fun b hb=>by
  rcases hat with e|⟨b',e,hb'⟩
  .rw[e] at hb;exact h.n2 b hb
  .rw[e] at hb
   cases hb;have:=h.lt;have:=h.like.lt;have:=h.turn.lt;have:=h.lowest.lt;exact⟨by omega,by omega,by omega,by omega⟩
 obtain⟨a1,a2,a3,a4,a5,a6⟩:=h.n1;have hX:∀{b:Nat},O b->b<(W1.setCell ⟨t,3,none⟩ v').heap.size:=fun {b} hb=>by have:=h.oX b hb;simp;omega
 have hs:∀b,b≠t->(W1.setCell ⟨t,3,none⟩ v').heap[b]? =W1.heap[b]? :=fun b hb=>heap_setCell_other W1 ⟨t,3,none⟩ b _ hb
 refine⟨by simp[World.cell?,tU],by simp[World.frozen?,tU],by simp[World.cell?,tU],h.wk,hb.setCell (p:=⟨t,3,none⟩) (h.oB t h.oT) _,?_,?_,?_,?_,h.ll,h.lu,h.lz,?_,?_,⟨.inl h.oT,hX h.oT⟩,⟨.inl h.oL,hX h.oL⟩,⟨.inl h.oU,hX h.oU⟩,⟨.inl h.oZ,hX h.oZ⟩,fun b hb=>⟨?_,by simpa using(hv.lt hb).2⟩,fun b hb=>⟨.inl (h.oW b hb),hX (h.oW b hb)⟩,fun b hb=> ?_,fun b hb=>hb.2,h.n1,hv2,h.n3,fun b hb hw=> ?_⟩
 .have:=heap_setCell_same W1 t 3 _ _ v' tU
  simpa using this
 .exact(hs L (aao a1)).trans ((hk L h.like.lt (hT L (by simp))).trans h.like)
 .exact(hs U (aao a2)).trans ((hk U h.turn.lt (hT U (by simp))).trans h.turn)
 .exact(hs Z (aao a3)).trans ((hk Z h.lowest.lt (hT Z (by simp))).trans h.lowest)
 .exact hv.same fun g hg _=>hs g (hv2 g hg).1
 .exact h.way.same fun g hg hl=>(hs g (h.n3 g hg).1).trans (hk g hl (hT g (by simp[hg])))
 .rcases hat with e|⟨b',e,hb'⟩
  .rw[e] at hb;exact .inl (h.oP b hb)
  .rw[e] at hb;cases hb;exact .inr hb'
 .rcases hb.1 with hb|hb
  .exact h.oB b hb
  .have:=h.aZ.size;omega
 .rcases hat with e|⟨b',e,hb'⟩
  .rw[e] at hb;exact h.n4 b hb hw
  .rw[e] at hb
   cases hb;have:=agf b hw;omega
theorem aS.aar (h:aS c p t W0 O st L U Z vp vw W) {W1:World} {v':Value} {vs:List kC} (hb:Below W0.heap.size W0 W1) (hk:∀b,b<W.heap.size->vw.ownBlock≠some b->W1.heap[b]? =W.heap[b]?) (hsz:W.heap.size<=W1.heap.size) (hv:dZ 131 6 xq W1 W0.heap.size v' vs.reverse) (hat:v'.ownBlock=vw.ownBlock\/∃b,v'.ownBlock=some b/\W.heap.size<=b):
 W1.cell? ⟨t,4,none⟩=some vw/\W1.frozen? ⟨t,4,none⟩=false/\aS c p t W0 (fun b=>(O b\/W.heap.size<=b)/\b<(W1.setCell ⟨t,4,none⟩ v').heap.size) { st with way:=vs } L U Z vp v' (W1.setCell ⟨t,4,none⟩ v'):=by
 have hT:∀b,(b=t\/b=L\/b=U\/b=Z\/vp.ownBlock=some b)->vw.ownBlock≠some b:=fun b hb e=>by
  have:=h.n3 b e;rcases hb with k|k|k|k|k
  .exact this.1 k
  .exact this.2.1 k
  .exact this.2.2.1 k
  .exact this.2.2.2 k
  .exact h.n4 b k e
 have agz:∀b,vp.ownBlock=some b->b<W.heap.size:=fun b hb=>(h.iX.lt hb).2
 have tU:W1.heap[t]? =some (.cells #[.pointer (some ⟨p,0,none⟩),.slice (some ⟨L,0,none⟩) c.es.length c.es.length,.slice (some ⟨U,0,none⟩) c.es.length c.es.length,vp,vw,.slice (some ⟨Z,0,none⟩) c.es.length c.es.length] 113 (0,0)):=(hk t h.lt (hT t (.inl rfl))).trans h.blk;have hv2:∀b,v'.ownBlock=some b->b≠t/\b≠L/\b≠U/\b≠Z:=fun b hb=>by
  rcases hat with e|⟨b',e,hb'⟩
  .rw[e] at hb;exact h.n3 b hb
  .rw[e] at hb
   cases hb;have:=h.lt;have:=h.like.lt;have:=h.turn.lt;have:=h.lowest.lt;exact⟨by omega,by omega,by omega,by omega⟩
 obtain⟨a1,a2,a3,a4,a5,a6⟩:=h.n1;have hX:∀{b:Nat},O b->b<(W1.setCell ⟨t,4,none⟩ v').heap.size:=fun {b} hb=>by have:=h.oX b hb;simp;omega
 have hs:∀b,b≠t->(W1.setCell ⟨t,4,none⟩ v').heap[b]? =W1.heap[b]? :=fun b hb=>heap_setCell_other W1 ⟨t,4,none⟩ b _ hb
 refine⟨by simp[World.cell?,tU],by simp[World.frozen?,tU],h.wk,hb.setCell (p:=⟨t,4,none⟩) (h.oB t h.oT) _,?_,?_,?_,?_,h.ll,h.lu,h.lz,?_,?_,⟨.inl h.oT,hX h.oT⟩,⟨.inl h.oL,hX h.oL⟩,⟨.inl h.oU,hX h.oU⟩,⟨.inl h.oZ,hX h.oZ⟩,fun b hb=>⟨.inl (h.oP b hb),hX (h.oP b hb)⟩,fun b hb=>⟨?_,by simpa using(hv.lt hb).2⟩,fun b hb=> ?_,fun b hb=>hb.2,h.n1,h.n2,hv2,fun b hb hw=> ?_⟩
 .have:=heap_setCell_same W1 t 4 _ _ v' tU
  simpa using this
 .exact(hs L (aao a1)).trans ((hk L h.like.lt (hT L (by simp))).trans h.like)
 .exact(hs U (aao a2)).trans ((hk U h.turn.lt (hT U (by simp))).trans h.turn)
 .exact(hs Z (aao a3)).trans ((hk Z h.lowest.lt (hT Z (by simp))).trans h.lowest)
 .exact h.iX.same fun g hg hl=>(hs g (h.n2 g hg).1).trans (hk g hl (hT g (by simp[hg])))
 .exact hv.same fun g hg _=>hs g (hv2 g hg).1
 .rcases hat with e|⟨b',e,hb'⟩
  .rw[e] at hb;exact .inl (h.oW b hb)
  .rw[e] at hb;cases hb;exact .inr hb'
 .rcases hb.1 with hb|hb
  .exact h.oB b hb
  .have:=h.aZ.size;omega
 .rcases hat with e|⟨b',e,hb'⟩
  .rw[e] at hw;exact h.n4 b hb hw
  .rw[e] at hw
   cases hw;have:=agz b hb;omega
end
end
section
open Go.Proofs.Tryz
open Go.RowKit
theorem Nz (m:Nat) (hm:m<=4294967295) (w:World):Calls prog 89 #[.int .u64 1,.int .u64 (m:Int)] w fun e w'=>e= .returned (.tuple #[.int .u64 0,.int .u64 (m:Int)])/\w'=w:=by
 have mask:∀a:Nat,a<=4294967295->bits .and .u64 (a:Int) 4294967295=(a:Int):=fun a ha=>by
  have h:=bits_and_u64_nat a 4294967295 (by omega) (by omega);have e:a &&& 4294967295=a%4294967296:=Nat.and_two_pow_sub_one_eq_mod a 32;rw[e,adh (by omega)] at h;exact h
 have b1:=mask 1 (by omega);have b0:=mask 0 (by omega);have bm:=mask m hm;have wr:∀a:Nat,a<=4294967295->IntKind.u64.wrap (a:Int)=(a:Int):=fun a ha=>by rw[afO];omega
 have w0:=wr 0 (by omega);have wm:=wr m hm;have d0:(m:Int)/4294967296=0:=by omega
 clear mask wr;go_enter func89,ntmps89;go_wp2_with fail;simp only[Int.natCast_one,Int.natCast_zero] at b1 b0 w0;simp only[b1,Int.one_mul,wm,d0,w0,Int.zero_ediv,b0];go_ret2;exact⟨rfl,rfl⟩
theorem Il (m:Nat) (hm:m<=4294967295) (w:World):Calls prog 71 #[.int .u64 1,.int .u64 (m:Int)] w fun e w'=>e= .returned (.tuple #[.int .u64 0,.int .u64 (m:Int)])/\w'=w:=by
 have HC:=ζ (Nz m hm w);have wm:IntKind.u64.wrap (m:Int)=(m:Int):=by rw[afO];omega
 have HW:=ζ wm;clear hm wm;go_enter func71,ntmps71;go_wp2_with (go_at_call 89;refine HC.out.mono ?_;rintro e w' ⟨rfl,hw⟩;rw[hw]);go_ret2;exact⟨rfl,rfl⟩
end
section
open Go.Proofs.Tryz
open Go.RowKit
def Lt.laid (m n:Nat) (x:Int):List Int:=List.replicate n x++List.replicate (m-n) 0
theorem Lt.DG (m n k:Nat) (x:Int) (h:n+k<=m):splice ((Lt.laid m n x).map (Value.int .i64)) n ((List.replicate k x).map (Value.int .i64))=(Lt.laid m (n+k) x).map (Value.int .i64):=by
 unfold Lt.laid splice;simp only[acS,List.map_replicate,List.length_replicate];rw[List.take_left' (by simp)];have hd:List.drop (n+k) (List.replicate n (Value.int IntKind.i64 x)++List.replicate (m-n) (Value.int IntKind.i64 0))=List.replicate (m-(n+k)) (Value.int .i64 0):=by
  rw[List.drop_append,List.length_replicate,aeB (by simp),acs,List.drop_replicate]
  congr 1
  omega
 rw[hd];rw[<-ace,List.replicate_append_replicate]
def EK (x:Int) (m:Nat) (w:World) (e:Ending) (w':World):Prop:=∃g,e= .returned (.slice (some ⟨g,0,none⟩) m m)/\af w' g (List.replicate m x)/\w.heap.size<=g/\Below w.heap.size w w'
theorem AG (x:Int) (m b cap:Nat) (hm:m<=8388608) (w:World) (hx:af w b [x]):Calls prog 52 #[.slice (some ⟨b,0,none⟩) 1 cap,.int .i64 (m:Int)] w (EK x m w):=by
 obtain⟨i0,hi,hz0,hz1,hz2⟩:=info_parts Tryz.cM;have HC:=ζ (Il m (by omega) w);have HX:=ζ hx;have hxc:=hx.cell (i:=0) (x:=x) rfl;have hbl:=hx.lt;have hwm:IntKind.u64.wrap (m:Int)=(m:Int):=by rw[afO];omega
 have hu:prog.underlying 27=some (.slice 3):=Tryz.underlying27;have A0:(prog.info? 3).map (·.size)=some 1:=by rw[hi,Option.map_some,hz1]
 clear hx;go_enter func52,ntmps52;go_wp2_with (first|(go_at_call 71;refine HC.out.mono ?_;rintro e w' ⟨rfl,hw⟩;rw[hw])|(at_make;refine wpList_make_full _ rfl _ _ 27 rfl w.heap.size 3 i0 (.int .i64 0) 1 Tryz.underlying27 hi hz0 hz1 _ _ _ _ m rfl rfl rfl rfl (by rw[hz2];omega) (by unfold maxLen;omega) (aad _) ?_;refine abQ ?_));refine ζ ?_;intro w2 hrow hg2;rw[dD] at hrow;have hik:=eu hrow;have hb2:Below w.heap.size w w2:=(aae _ _).grown hg2 (aad _) (fun j hj=>by cases hj);have iM:Hid (w2.heap[w.heap.size]? =some (.cells ((Lt.laid m 0 x).map (Value.int .i64)).toArray 3 (0,0))):=by
  have e:Lt.laid m 0 x=List.replicate m 0:=by unfold Lt.laid;simp
  rw[e];exact hik
 have hx2:w2.cell? ⟨b,0,none⟩=some (.int .i64 x):=by
  have:=(HX.out.later hb2).cell (i:=0) (x:=x) rfl;exact this
 have cj:=ζ hb2;clear hrow hg2 hik hb2;obtain⟨C0,hC0⟩:∃C0,C0=(Lt.laid m 0 x).map (Value.int .i64):=⟨_,rfl⟩;rw[<-hC0] at iM;obtain⟨q,hq,zW⟩:∃q:Nat,q=min 1 m/\(q=0\/q=1):=⟨min 1 m,rfl,by omega⟩;obtain⟨X0,xk⟩:∃X0,X0=(List.replicate q x).map (Value.int .i64):=⟨_,rfl⟩;have Jv:=ζ hC0;have Xx:=ζ xk;have HQ:=ζ hq;have VW:X0.length=Nat.min 1 m:=by rw[Xx.out];simp;exact HQ.out
 have Ws:C0.length=m:=by rw[Jv.out];unfold Lt.laid;simp
 have Tl:=ζ VW;have Pg:=ζ Ws;have aix:Hid (∀v∈X0,v.oneCell'=true):=fun v hv=>by
  rw[Xx.out] at hv;obtain⟨y,-,rfl⟩:=abT.1 hv;rfl
 have aiy:Hid (∀j v,X0[j]? =some v->w2.cell? ((⟨b,0,none⟩:Addr).add j)=some v):=fun j v hj=>by
  rw[Xx.out,abU,acQ] at hj;by_cases k:j<q
  .rw[if_pos k] at hj
   cases hj;have hj0:j=0:=by rcases zW with r|r<;>omega
   subst hj0;exact hx2
  .rw[if_neg k] at hj
   cases hj
 have HF0:Hid (0+X0.length<=C0.length):=by show _<=_;rw[VW,Ws,ac7];exact Nat.min_le_right _ _
 clear hC0 xk hq VW Ws;go_wp2_with (refine wpList_copy_splice rfl (.tmp 31) (.tmp 32) 27 27 rfl 3 hu A0 _ _ _ _ _ _ rfl rfl w.heap.size 0 C0 3 iM.out X0 Tl.out (fun _=>⟨rfl,_,rfl,aiy.out⟩) HF0.out aix.out w.heap.size w cj.out (aad _) ?_;refine abQ ?_);refine ζ ?_;intro w3 Ms hb3;have BI:af w3 w.heap.size (Lt.laid m q x):=by
  have h3:=Ms.out;have hq:=HQ.out;rw[Jv.out,Xx.out] at h3;have e:=Lt.DG m 0 q x (by omega);rw[e,ac7] at h3;exact h3
 have N8:q<=m/\(0<q\/m=0):=by have:=HQ.out;omega
 have DV:X0.length=q:=by rw[Xx.out];simp
 rw[DV];have cz:=ζ hb3;have EY:=ζ BI;have HQM:=ζ N8;clear BI hb3 N8 DV hx2 zW;go_wp2;go_loopw [8] (fun c wr=>∃n:Nat,c= .int .i64 (n:Int)/\n<=m/\(0<n\/m=0)/\af wr w.heap.size (Lt.laid m n x)/\Below w.heap.size w wr) (fun c _=>m-(intOf c).toNat)
 case atStart=>exact⟨q,rfl,HQM.out.1,HQM.out.2,EY.out,cz.out⟩
 case round=>
  obtain⟨k,rfl,hkm,hk0,hik,hbk⟩:=hrel;by_cases hlt:k<m
  .have i1:(k:Int)<(m:Int):=by omega
   have i0:(0:Int)<=(k:Int):=by omega
   obtain⟨Ck,Zt⟩:∃Ck,Ck=(Lt.laid m k x).map (Value.int .i64):=⟨_,rfl⟩;obtain⟨d,hd⟩:∃d,d=min k (m-k):=⟨_,rfl⟩;obtain⟨Xk,SD⟩:∃Xk,Xk=(List.replicate d x).map (Value.int .i64):=⟨_,rfl⟩;have XW:Hid (wr.heap[w.heap.size]? =some (.cells Ck.toArray 3 (0,0))):=by rw[Zt];exact hik
   have q8:Hid (Ck.length=m):=by show _=_;rw[Zt];unfold Lt.laid;simp;omega
   have HXL:Hid (Xk.length=d):=by show _=_;rw[SD];simp
   have HXV:Hid (∀v∈Xk,v.oneCell'=true):=fun v hv=>by
    rw[SD] at hv;obtain⟨y,-,rfl⟩:=abT.1 hv;rfl
   have HXC:Hid (∀j v,Xk[j]? =some v->wr.cell? ((⟨w.heap.size,0,none⟩:Addr).add j)=some v):=fun j v hj=>by
    rw[SD,abU,acQ] at hj;by_cases r:j<d
    .rw[if_pos r] at hj
     cases hj;rw[show(⟨w.heap.size,0,none⟩:Addr).add j=⟨w.heap.size,j,none⟩ by unfold Addr.add;simp;omega];refine hik.cell (i:=j) ?_;unfold Lt.laid;rw[acF (by simp;omega),acQ,if_pos (by omega)]
    .rw[if_neg r] at hj
     cases hj
   have HXM:Hid (Xk.length=Nat.min k (m-k)):=by show _=_;rw[SD,hd];simp
   have GY:Hid (k+Xk.length<=Ck.length):=by show _<=_;rw[HXL.out,q8.out];omega
   have HCK:=ζ Zt;have HXK:=ζ SD;have HD:=ζ hd;have Ar:Hid (Below w.heap.size w wr.drew):=hbk.drew;have hne:¬m=k:=by omega
   clear hik hbk Zt SD hd;go_wp2
   go_region_law (refine step_copy_splice rfl (.tmp 41) (.tmp 44) 27 27 rfl 3 hu A0 (some ⟨w.heap.size,k,none⟩) (some ⟨w.heap.size,0,none⟩) (m-k) (m-k) k m (by simp[Act.eval,Act.put]) (by simp[Act.eval,Act.put]) w.heap.size k Ck 3 XW.out Xk HXM.out (fun _=>⟨rfl,_,rfl,HXC.out⟩) GY.out HXV.out w.heap.size w Ar.out (aad _) ?_;intro w4 hg4 hb4;rw[HXL.out])
   have hwr:IntKind.i64.wrap ((k:Int)+(d:Int))=((k+d:Nat):Int):=by rw[acf];have:=HD.out;omega
   rw[hwr];have HG4:=ζ hg4.out;have iE:=ζ hb4;clear hg4 hb4 hwr;simp only[Act.put,List.getElem_toArray,List.getElem_cons_succ,List.getElem_cons_zero,aeI,List.set_cons_succ,List.set_cons_zero];go_wp2;go_roundw
   case rel=>
    refine⟨k+d,rfl,by have:=HD.out;omega,by have:=HD.out;omega,?_,iE.out⟩;have h4:=HG4.out;have e:=Lt.DG m k d x (by have:=HD.out;omega);rw[HCK.out,HXK.out,e] at h4;exact h4
   case measure=>
    have:=HD.out;simp[intOf];omega
  .obtain rfl:k=m:=by omega
   have XW:=ζ hik;have Ar:=ζ hbk;clear hik hbk;go_wp2;go_ret;refine⟨_,rfl,?_,aad _,Ar.out⟩;have h4:=XW.out;unfold Lt.laid at h4;simpa using h4
end
section
open Go.Proofs.Tryz
open Go.RowKit Lt
def QY (m:Nat) (w:World) (e:Ending) (w':World):Prop:=∃L U,e= .returned (.agg #[.slice (some ⟨L,0,none⟩) m m,.slice (some ⟨U,0,none⟩) m m])/\af w' L (List.replicate m (-1))/\af w' U (List.replicate m 1)/\w.heap.size<=L/\w.heap.size<=U/\L≠U/\Below w.heap.size w w'
theorem Fc (m:Nat) (hm:m<=8388608) (w:World):Calls prog 51 #[.int .i64 (m:Int)] w (QY m w):=by
 have HR:Hid (∀(x:Int) (b:Nat) (W:World),af W b [x]->Calls prog 52 #[.slice (some ⟨b,0,none⟩) 1 1,.int .i64 (m:Int)] W (EK x m W)):=fun x b W h=>AG x m b 1 hm W h
 obtain⟨W1,hW1⟩:∃W1,W1=(w.alloc (.cells #[.slice none 0 0,.slice none 0 0] 108)).alloc (.cells #[.int .i64 (-1)] 3):=⟨_,rfl⟩;have hb1:Below w.heap.size w W1:=by rw[hW1];exact((aae _ _).alloc (aad _) _).alloc (by simp) _
 have k1:W1.heap[w.heap.size]? =some (.cells #[.slice none 0 0,.slice none 0 0] 108 (0,0)):=by
  rw[hW1,ab2 _ _ _ (by simp)];exact heap_alloc_new w _
 have hi1:af W1 (w.heap.size+1) [-1]:=by
  rw[hW1];have:=heap_alloc_new (w.alloc (.cells #[.slice none 0 0,.slice none 0 0] 108)) (.cells #[.int .i64 (-1)] 3);rw[show(w.alloc (.cells #[.slice none 0 0,.slice none 0 0] 108)).heap.size=w.heap.size+1 by simp] at this;exact this
 have X7:=ζ (HR.out (-1) (w.heap.size+1) W1 hi1);have aY:=ζ hb1;have Tn:=ζ k1;have pE:=ζ hW1;rw[hW1] at X7;have A0:W1.heap.size=w.heap.size+2:=by rw[hW1];simp
 have ER:=ζ A0;clear hm hi1 hb1 k1 A0 hW1;go_enter func51,ntmps51;go_wp2_with (go_at_call 52;refine X7.out.mono ?_;rw[<-pE.out];rintro e W3 ⟨g1,rfl,hi1,hg1,hb1⟩;have qZ:=ζ hi1;have mY:=ζ hg1;have cz:=ζ hb1;clear hi1 hg1 hb1;have FB:=ζ (HR.out 1 W3.heap.size (W3.alloc (.cells #[.int .i64 1] 3)) (heap_alloc_new W3 _));clear X7);go_at_call 52;refine FB.out.mono ?_;rintro e W4 ⟨g2,rfl,hi2,hg2,hb2⟩;have b2:Below W3.heap.size W3 W4:=((aae _ _).alloc (aad _) _).trans (hb2.mono (by simp));have s1:=ER.out;have s3:=cz.out.size;have s4:=b2.size;have g1l:=qZ.out.lt;have i1:=qZ.out.later b2;have kk:W4.heap[w.heap.size]? =some (.cells #[.slice none 0 0,.slice none 0 0] 108 (0,0)):=(b2.block _ (by omega)).trans ((cz.out.block _ (by omega)).trans Tn.out);have yF:Below w.heap.size w W4:=(aY.out.trans (cz.out.mono (by omega))).trans (b2.mono (by have:=aY.out.size;omega));have ahb:W3.heap.size<=g2:=by
  have:(W3.alloc (.cells #[.int .i64 1] 3)).heap.size=W3.heap.size+1:=by simp
  omega
 have q7:Hid (∀W5,(∀b,b≠w.heap.size->W5.heap[b]? =W4.heap[b]?)->Below w.heap.size w W5->QY m w (.returned (.agg #[.slice (some ⟨g1,0,none⟩) m m,.slice (some ⟨g2,0,none⟩) m m])) W5):=fun W5 h5 hb5=>by
  have:=mY.out;refine⟨g1,g2,rfl,(h5 g1 (by omega)).trans i1,(h5 g2 (by omega)).trans hi2,by omega,by omega,by omega,hb5⟩
 have zk:=ζ yF;obtain⟨x0,x1,x2⟩:=aj kk;have HKK:=ζ kk;clear hi2 hg2 hb2 i1 yF b2 ahb s1 s3 s4 g1l kk;simp only[];go_wp2;refine bodyPost_ret (v:= .agg #[.slice (some ⟨g1,0,none⟩) m m,.slice (some ⟨g2,0,none⟩) m m]) (results_cell_row (p:=2) (ty:=108) results51 _ _ w.heap.size 108 _ (0,0) _ rfl (ju HKK.out _ _) Tryz.underlying108 rfl (by kernel_rfl)) rfl ?_;refine q7.out _ (fun b hb=> ?_) ?_
 .rw[heap_setCell_other _ ⟨w.heap.size,1,none⟩ b _ hb,heap_setCell_other _ ⟨w.heap.size,0,none⟩ b _ hb]
 .exact(zk.out.setCell (p:=⟨w.heap.size,0,none⟩) (aad _) _).setCell (p:=⟨w.heap.size,1,none⟩) (aad _) _
end
end Go.Proofs.YtbhdibflpjhpaaaGreat
