import Derived.Test.YtdbjpbjocmcpkaaGreatDoorMg12
import Derived.Sort.OwnSortedInts
import Derived.BigRegion
set_option maxHeartbeats 8000000
set_option maxRecDepth 100000
namespace Go.Proofs.YtdbjpbjocmcpkaaGreatDoor
section
open Go.RowKit Go.Sort
namespace Ku
def xh (dl:List Int) (m:Nat):Int:=(m:Int)-((cA dl 0 m).length:Int)-((cA dl 2 m).length:Int)
def KB (dl:List Int) (m:Nat) (R:List (List Int)):Prop:=(cA dl 4 m).length=5/\xh dl m=5/\R.length=10
def zn (dl:List Int) (m:Nat) (R:List (List Int)):Prop:=(cA dl 3 m).length=6/\xh dl m=6/\R.length=9
def mV (kd:Nat) (i:Nat):Nat->List (Nat×Nat)
 |0=>[]
 |j+1=>if i<j/\¬(kd=2/\(3<=i\/j<3)) then mV kd i j++[(i,j)] else mV kd i j
def out (kd L:Nat):Nat->List (Nat×Nat)
 |0=>[]
 |i+1=>out kd L i++mV kd i L
theorem I9 (kd i:Nat):∀{j},j<=i+1->mV kd i j=[]
 |0,_=>rfl
 |j+1,h=>by
  unfold mV;rw[if_neg (by omega)];exact I9 kd i (by omega)
theorem I8 {kd i j:Nat} (h:i<j) (hs:¬(kd=2/\(3<=i\/j<3))):mV kd i (j+1)=mV kd i j++[(i,j)]:=if_pos ⟨h,hs⟩
theorem Ux {kd i j:Nat} (hs:kd=2/\(3<=i\/j<3)):mV kd i (j+1)=mV kd i j:=if_neg fun h=>h.2 hs
def way (R:List (List Int)) (br:List Int) (p:Nat×Nat):List Int×Nat:=cj R (gI br p.1) (gI br p.2) R.length
def S6 (B:Nat) (v:Value):Prop:=∀b,v.ownBlock=some b->B<=b
def wJ (B:Nat) (w:World) (v:Value) (ls:List (List Int)):Prop:=∃ao c,v= .slice ao ls.length c/\∀(k:Nat) (l:List Int),ls[k]? =some l->∃b o x,ao=some ⟨b,o,none⟩/\B<=b/\w.cell? ⟨b,o+k,none⟩=some x/\fq w x l/\S6 B x
theorem wJ.sees {B:Nat} {w:World} {v:Value} {ls:List (List Int)} (h:wJ B w v ls):o9 w v ls:=by
 obtain⟨ao,c,e,h⟩:=h;exact⟨ao,c,e,fun k l hl=>by
  obtain⟨b,o,x,h1,_,h2,h3,_⟩:=h k l hl;exact⟨b,o,x,h1,h2,h3⟩⟩
def Found (B:Nat) (kd:Nat) (R:List (List Int)) (br:List Int) (e:Ending) (w':World):Prop:=
 ((∃p∈out kd br.length br.length,(way R br p).2≠1)/\e= .returned (.tuple #[.agg #[.int .i64 0,.slice none 0 0,.slice none 0 0],.bool false,.int .i64 0]))\/
 ((∀p∈out kd br.length br.length,(way R br p).2=1)/\∃v1 v2,e= .returned (.tuple #[.agg #[.int .i64 (kd:Int),v1,v2],.bool (((out kd br.length br.length).length:Int)==(R.length:Int)),.int .i64 0])/\
   fq w' v1 br/\S6 B v1/\wJ B w' v2 ((out kd br.length br.length).map fun p=>(way R br p).1))
def CL (n:Int) (es:List (Int×Int)) (w:World) (e:Ending) (w':World):Prop:=
 ((Si.valid n es=false/\e= .returned (.tuple #[.agg #[.int .i64 0,.slice none 0 0,.slice none 0 0],.bool false,.int .i64 1]))\/
 ∃(m:Nat) (hv:Si.Val n es),n=(m:Int)/\
  ((¬KB (Si.aS n es) m (rows es hv es.length)/\¬zn (Si.aS n es) m (rows es hv es.length)/\e= .returned (.tuple #[.agg #[.int .i64 0,.slice none 0 0,.slice none 0 0],.bool false,.int .i64 0]))\/
   (KB (Si.aS n es) m (rows es hv es.length)/\Found w.heap.size 1 (rows es hv es.length) (cA (Si.aS n es) 4 m) e w')\/
   (zn (Si.aS n es) m (rows es hv es.length)/\Found w.heap.size 2 (rows es hv es.length) (e6 (rows es hv es.length) (cA (Si.aS n es) 3 m) 6++iO (rows es hv es.length) (cA (Si.aS n es) 3 m) 6) e w')))/\Below w.heap.size w w'
end Ku
namespace Ku
theorem OV (l:List Int) (k:Nat):(cA l 0 k).length+(cA l 2 k).length+(cA l 3 k).length+(cA l 4 k).length<=k:=by
 induction k with
 |zero=>simp[cA]
 |succ k ih=>
  have e:∀d,(cA l d (k+1)).length=(cA l d k).length+if gI l k=d then 1 else 0:=fun d=>by
   show(if gI l k=d then cA l d k++[(k:Int)] else cA l d k).length=_
   split<;>simp
  rw[e 0,e 2,e 3,e 4]
  repeat' split
  all_goals omega
theorem CB (ls:List (List Int)) (x y:Int) (h:∀l∈ls,1<=l.length):∀k,k<=ls.length->(cj ls x y k).2≠0->(cj ls x y k).1≠[]
 |0,_,h0=>absurd rfl h0
 |k+1,hk,h0=>by
  obtain⟨l,hl⟩:∃l,ls[k]? =some l:=⟨_,aac (by omega)⟩;have h1:=h l (aai hl);cases hh:hit l x y with
  |none=>
   rw[uP hl hh] at h0 ⊢;exact CB ls x y h k (by omega) h0
  |some r=>
   rw[uO hl hh];unfold hit at hh
   split at hh
   .cases hh
    exact aev h1
   .split at hh
    .cases hh
     exact aev (by rw[acr];exact h1)
    .cases hh
theorem fq.lt {w:World} {v:Value} {l:List Int} (h:fq w v l) (hl:l≠[]) {b:Nat} (hb:v.ownBlock=some b):b<w.heap.size:=by
 obtain⟨a,c,rfl,hi⟩:=h;obtain⟨x,hx⟩:∃x,l[0]? =some x:=⟨_,aac (acq.2 hl)⟩;obtain⟨b',o,rfl,hc⟩:=hi 0 x hx;cases hb;exact block_lt_of_cell hc
section
end
end Ku
theorem bN {fn:Func} {P:Program} {p q r:Tmp} (h:fn.results= #[.cell p 82,.tmp q,.tmp r]) (hP:P=Tryz.prog) (tmps:Array Value) (w:World) (b:Nat) (x y z u v:Value) (hp:tmps.getD p undef= .pointer (some ⟨b,0,none⟩)) (hq:tmps.getD q undef=u) (hr:tmps.getD r undef=v) (h0:w.cell? ⟨b,0,none⟩=some x) (h1:w.cell? ⟨b,1,none⟩=some y) (h2:w.cell? ⟨b,2,none⟩=some z):(results fn tmps).run P w= .ok (.tuple #[.agg #[x,y,z],u,v]) w:=by
 subst hP;have hp':tmps[p]?.getD undef= .pointer (some ⟨b,0,none⟩):=by simpa using hp
 have hq':tmps[q]?.getD undef=u:=by simpa using hq
 have hr':tmps[r]?.getD undef=v:=by simpa using hr
 simp[results,h,go_sem,hp',hq',hr',h0,h1,h2]
theorem au {w:World} {b:Nat} {s t u:Value} (hs:w.cell? ⟨b,0,none⟩=some s) (ht:w.cell? ⟨b,1,none⟩=some t) (hu:w.cell? ⟨b,2,none⟩=some u) (x y z:Value):(((w.setCell ⟨b,0,none⟩ x).setCell ⟨b,1,none⟩ y).setCell ⟨b,2,none⟩ z).cell? ⟨b,0,none⟩=some x/\(((w.setCell ⟨b,0,none⟩ x).setCell ⟨b,1,none⟩ y).setCell ⟨b,2,none⟩ z).cell? ⟨b,1,none⟩=some y/\(((w.setCell ⟨b,0,none⟩ x).setCell ⟨b,1,none⟩ y).setCell ⟨b,2,none⟩ z).cell? ⟨b,2,none⟩=some z:=by
 refine⟨?_,?_,?_⟩<;>simp[go_sem,hs,ht,hu]
theorem CC {w:World} {b i:Nat} {s:Value} (h:w.cell? ⟨b,i,none⟩=some s) (ob:Obj):(w.alloc ob).cell? ⟨b,i,none⟩=some s:=by
 rw[abJ (w:=w) (a:=⟨b,i,none⟩) (heap_alloc_old w ob (block_lt_of_cell h))];exact h
theorem bO {B:Nat} {w W:World} {b:Nat} (h:Below B w W) (hb:B<=b) (x y z:Value):Below B w (((W.setCell ⟨b,0,none⟩ x).setCell ⟨b,1,none⟩ y).setCell ⟨b,2,none⟩ z):=
 ((h.setCell (p:=⟨b,0,none⟩) hb _).setCell (p:=⟨b,1,none⟩) hb _).setCell (p:=⟨b,2,none⟩) hb _
end
section
open Go.Proofs.Tryz
open Go.RowKit Go.Sort
theorem Mo (w:World):Sort.grow w #[]=w:=by
 cases w;simp[Sort.grow]
theorem s9 (B:Nat) (v:Value) (R:List Int) (w:World) (h:aj w B v R) (h0:R≠[]) (hl:R.length<=17592186044000):
 Calls prog 93 #[v] w fun e w'=>e= .returned (.tuple #[])/\aj w' B v R.reverse/\w.grownBy w' v.ownBlock:=by
 have hml:R.reverse.length=R.length:=acr;rcases h.2 with ⟨rfl,h1⟩|⟨g,cap,cur,rfl,hg,hh,hc,hm,hs,ht⟩
 .exact absurd (abM.1 h1) h0
 .rw[Nat.mul_one] at ht
  refine(Tryz.slices_Reverse_int g 0 cap R w (holds_of_blockI hh ht) (by omega)).mono ?_;rintro e w' ⟨rfl,n,rfl⟩;have a1:=ownsRow_sortedI (n:=n) (os:= #[]) hml hg hh hc hm hs;have a2:=grownBy_sortedI (w:=w) (g:=g) (n:=n) (os:= #[]) R.reverse.toArray;rw[Mo] at a1 a2;refine⟨rfl,?_,a2⟩;unfold aj;rw[hml];exact a1
theorem Dd (B:Nat) (ao:Option Addr) (q c:Nat) (l:List Int) (w:World) (hq:l.length=q) (h:aj w B (.slice ao q c) l) (hB:B<=w.heap.size) (h2:2<=q) (hl:q<=17592186044000):
 Calls prog 210 #[.slice ao q c] w fun e w'=>e= .returned (.slice ao q c)/\aj w' B (.slice ao q c) (Ku.bM l)/\Below B w w':=by
 obtain⟨SU,c',e,hat,-⟩:=h.form;rw[hq] at e;cases e;have ct:=ζ h;have HLO:Hid (∀b,(Value.slice ao q c).ownBlock=some b->B<=b):=fun b hb=>(aap h b hb).1
 obtain⟨q1,hq1⟩:∃q1,q1=q-1:=⟨_,rfl⟩;obtain⟨q2,qF⟩:∃q2,q2=q-2:=⟨_,rfl⟩;obtain⟨x0,hx0⟩:∃x,l[0]? =some x:=⟨_,aac (by omega)⟩;obtain⟨x1,hx1⟩:∃x,l[1]? =some x:=⟨_,aac (by omega)⟩;obtain⟨xn,oH⟩:∃x,l[q1]? =some x:=⟨_,aac (by omega)⟩;obtain⟨xm,Du⟩:∃x,l[q2]? =some x:=⟨_,aac (by omega)⟩;obtain⟨b,o,rfl,e0⟩:=hat 0 x0 hx0;obtain⟨_,_,e,e1⟩:=hat 1 x1 hx1;cases e;obtain⟨_,_,e,e2⟩:=hat q1 xn oH;cases e;obtain⟨_,_,e,e3⟩:=hat q2 xm Du;cases e;rw[abN] at e0;have hw1:IntKind.i64.wrap ((q:Int)-1)=(q1:Int):=by rw[aam];omega
 have hw2:IntKind.i64.wrap ((q1:Int)-1)=(q2:Int):=by rw[aam];omega
 have i0:(0:Int)<(q:Int):=by omega
 have i1:(1:Int)<(q:Int):=by omega
 have i2:(0:Int)<=(q1:Int):=by omega
 have i3:(q1:Int)<(q:Int):=by omega
 have i4:(0:Int)<=(q2:Int):=by omega
 have i5:(q2:Int)<(q:Int):=by omega
 have rB:Hid (∀U:World,Below w.heap.size w U->(∀D:LW U,D.val.cell? ⟨b,o,none⟩=some (.int .i64 x0))/\(∀D:LW U,D.val.cell? ⟨b,o+1,none⟩=some (.int .i64 x1))/\(∀D:LW U,D.val.cell? ⟨b,o+q1,none⟩=some (.int .i64 xn))/\(∀D:LW U,D.val.cell? ⟨b,o+q2,none⟩=some (.int .i64 xm))):=fun U hU=>
  have key:∀(D:LW U) (i:Nat) (x:Value),w.cell? ⟨b,i,none⟩=some x->D.val.cell? ⟨b,i,none⟩=some x:=fun D i x hx=>((hU.trans (D.h.mono hU.size)).cell (p:=⟨b,i,none⟩) (block_lt_of_cell hx)).trans hx
  ⟨fun D=>key D _ _ e0,fun D=>key D _ _ e1,fun D=>key D _ _ e2,fun D=>key D _ _ e3⟩
 have wS:Hid (Ku.bM l=if xn<x0\/(x0=xn/\xm<x1) then l.reverse else l):=by
  show _=_;unfold Ku.bM;rw[hq,<-hq1,<-qF,Ku.bK hx0,Ku.bK hx1,Ku.bK oH,Ku.bK Du]
 have EP:l≠[]:=fun e=>by rw[e] at hq;simp at hq;omega
 have Vs:Hid (∀W,Below w.heap.size w W->Calls prog 93 #[.slice (some ⟨b,o,none⟩) q c] W fun e w'=>e= .returned (.tuple #[])/\aj w' B (.slice (some ⟨b,o,none⟩) q c) l.reverse/\W.grownBy w' (Value.slice (some ⟨b,o,none⟩) q c).ownBlock):=fun W hb=>s9 B _ l W (ct.out.later hb) EP (by omega)
 clear h hat hx0 hx1 oH Du hq1 qF e0 e1 e2 e3 EP;obtain⟨cb,hcb⟩:∃cb,(x0==xn)=cb:=⟨_,rfl⟩;by_cases ha:xn<x0
 .have HR:Hid (Ku.bM l=l.reverse):=by show _=_;rw[wS.out,if_pos (.inl ha)]
  have u1:decide (xn<x0)=true:=by simp only[decide_eq_true_eq];exact ha
  clear ha;go_enter func210,ntmps210;obtain⟨d0,d1,d2,d3⟩:=rB.out w (aae w.heap.size w);have hne:=LW.any w;go_wp2_with fail;refine aG (by kernel_rfl) (by kernel_rfl) ?_
  repeat (go_big_quiet_step (fail))
  refine wpQuiet_nil ?_;rintro _ ⟨E,rfl⟩;have aI:=ζ (((aae w.heap.size w)).trans (E.h.mono ((aae w.heap.size w)).size));obtain⟨W1,cX⟩:∃WE,WE=E.val:=⟨_,rfl⟩;rw[<-cX] at aI ⊢;clear d0 d1 d2 d3 hne cX;obtain⟨d0,d1,d2,d3⟩:=rB.out W1 aI.out;have hne:=LW.any W1;go_wp2_with fail;refine aG (by kernel_rfl) (by kernel_rfl) ?_
  repeat (go_big_quiet_step (fail))
  refine wpQuiet_nil ?_;rintro _ ⟨E,rfl⟩;have aB:=ζ ((aI.out).trans (E.h.mono (aI.out).size));obtain⟨W2,cX⟩:∃WE,WE=E.val:=⟨_,rfl⟩;rw[<-cX] at aB ⊢;clear d0 d1 d2 d3 hne cX;have HT:=ζ (Vs.out W2 aB.out);go_wp2_with (go_at_call 93;refine HT.out.mono ?_;rintro e w3 ⟨rfl,ho,hgr⟩;refine aaj ?_);refine ζ ?_;have HO:=ζ ho;have aJ:=ζ ((aB.out.mono hB).grown hgr (aaD hB aB.out.size) (fun k hk=>HLO.out k hk));clear ho hgr;go_wp2;go_ret;exact⟨rfl,by rw[HR.out];exact HO.out,aJ.out⟩
 .have u1:decide (xn<x0)=false:=by simp only[decide_eq_false_iff_not];exact ha
  by_cases hb:x0=xn
  .have t1:cb=true:=by rw[<-hcb];simp[hb]
   subst t1;by_cases hc:xm<x1
   .have u2:decide (xm<x1)=true:=by simp only[decide_eq_true_eq];exact hc
    have HR:Hid (Ku.bM l=l.reverse):=by show _=_;rw[wS.out,if_pos (.inr ⟨hb,hc⟩)]
    clear hb ha hc;go_enter func210,ntmps210;obtain⟨d0,d1,d2,d3⟩:=rB.out w (aae w.heap.size w);have hne:=LW.any w;go_wp2_with fail;refine aG (by kernel_rfl) (by kernel_rfl) ?_
    repeat (go_big_quiet_step (fail))
    refine wpQuiet_nil ?_;rintro _ ⟨E,rfl⟩;have aI:=ζ (((aae w.heap.size w)).trans (E.h.mono ((aae w.heap.size w)).size));obtain⟨W1,cX⟩:∃WE,WE=E.val:=⟨_,rfl⟩;rw[<-cX] at aI ⊢;clear d0 d1 d2 d3 hne cX;obtain⟨d0,d1,d2,d3⟩:=rB.out W1 aI.out;have hne:=LW.any W1;go_wp2_with fail;refine aG (by kernel_rfl) (by kernel_rfl) ?_
    repeat (go_big_quiet_step (fail))
    refine wpQuiet_nil ?_;rintro _ ⟨E,rfl⟩;have aB:=ζ ((aI.out).trans (E.h.mono (aI.out).size));obtain⟨W2,cX⟩:∃WE,WE=E.val:=⟨_,rfl⟩;rw[<-cX] at aB ⊢;clear d0 d1 d2 d3 hne cX;have HT:=ζ (Vs.out W2 aB.out);go_wp2_with (go_at_call 93;refine HT.out.mono ?_;rintro e w3 ⟨rfl,ho,hgr⟩;refine aaj ?_);refine ζ ?_;have HO:=ζ ho;have aJ:=ζ ((aB.out.mono hB).grown hgr (aaD hB aB.out.size) (fun k hk=>HLO.out k hk));clear ho hgr;go_wp2;go_ret;exact⟨rfl,by rw[HR.out];exact HO.out,aJ.out⟩
   .have u2:decide (xm<x1)=false:=by simp only[decide_eq_false_iff_not];exact hc
    have HR:Hid (Ku.bM l=l):=by show _=_;rw[wS.out,if_neg (by omega)]
    clear hb ha hc;go_enter func210,ntmps210;obtain⟨d0,d1,d2,d3⟩:=rB.out w (aae w.heap.size w);have hne:=LW.any w;go_wp2_with fail;refine aG (by kernel_rfl) (by kernel_rfl) ?_
    repeat (go_big_quiet_step (fail))
    refine wpQuiet_nil ?_;rintro _ ⟨E,rfl⟩;have aI:=ζ (((aae w.heap.size w)).trans (E.h.mono ((aae w.heap.size w)).size));obtain⟨W1,cX⟩:∃WE,WE=E.val:=⟨_,rfl⟩;rw[<-cX] at aI ⊢;clear d0 d1 d2 d3 hne cX;obtain⟨d0,d1,d2,d3⟩:=rB.out W1 aI.out;have hne:=LW.any W1;go_wp2_with fail;refine aG (by kernel_rfl) (by kernel_rfl) ?_
    repeat (go_big_quiet_step (fail))
    refine wpQuiet_nil ?_;rintro _ ⟨E,rfl⟩;have aB:=ζ ((aI.out).trans (E.h.mono (aI.out).size));obtain⟨W2,cX⟩:∃WE,WE=E.val:=⟨_,rfl⟩;rw[<-cX] at aB ⊢;clear d0 d1 d2 d3 hne cX;have HO:=ζ (ct.out.later aB.out);go_wp2;go_ret;exact⟨rfl,by rw[HR.out];exact HO.out,aB.out.mono hB⟩
  .have t1:cb=false:=by rw[<-hcb];simp[hb]
   subst t1;have HR:Hid (Ku.bM l=l):=by show _=_;rw[wS.out,if_neg (by omega)]
   clear hb ha;go_enter func210,ntmps210;obtain⟨d0,d1,d2,d3⟩:=rB.out w (aae w.heap.size w);have hne:=LW.any w;go_wp2_with fail;refine aG (by kernel_rfl) (by kernel_rfl) ?_
   repeat (go_big_quiet_step (fail))
   refine wpQuiet_nil ?_;rintro _ ⟨E,rfl⟩;have aI:=ζ (((aae w.heap.size w)).trans (E.h.mono ((aae w.heap.size w)).size));obtain⟨W1,cX⟩:∃WE,WE=E.val:=⟨_,rfl⟩;rw[<-cX] at aI ⊢;clear d0 d1 d2 d3 hne cX;obtain⟨d0,d1,d2,d3⟩:=rB.out W1 aI.out;have hne:=LW.any W1;go_wp2_with fail;refine aG (by kernel_rfl) (by kernel_rfl) ?_
   repeat (go_big_quiet_step (fail))
   refine wpQuiet_nil ?_;rintro _ ⟨E,rfl⟩;have aB:=ζ ((aI.out).trans (E.h.mono (aI.out).size));obtain⟨W2,cX⟩:∃WE,WE=E.val:=⟨_,rfl⟩;rw[<-cX] at aB ⊢;clear d0 d1 d2 d3 hne cX;have HO:=ζ (ct.out.later aB.out);go_wp2;go_ret;exact⟨rfl,by rw[HR.out];exact HO.out,aB.out.mono hB⟩
end
section
open Go.RowKit
section
variable {B:Nat} {v v':Value} {vs vs2:List Value} {ls Bk:List (List Int)}
theorem ay.more {W w1:World} (h:ay W B v vs ls) (EN:vs2.length=Bk.length) (Nl:∀(u:Nat) (x:Value) (l:List Int),vs2[u]? =some x->Bk[u]? =some l->aj W B x l)
 (GP:∀(u u':Nat) (x x':Value) (b:Nat),u≠u'->vs2[u]? =some x->vs2[u']? =some x'->x.ownBlock=some b->x'.ownBlock≠some b) (hx:∀b,cC vs2 b->¬(v.ownBlock=some b\/cC vs b))
 (hown:w1.ownsRow B 55 1 v' (ls.length+Bk.length) (vs++vs2)) (hgrow:W.grownBy w1 v.ownBlock) (hat:v'.ownBlock=v.ownBlock\/v'.ownBlock=some W.heap.size):ay w1 B v' (vs++vs2) (ls++Bk):=by
 have hsame:∀g,v.ownBlock≠some g->g<W.heap.size->w1.heap[g]? =W.heap[g]? :=fun g hne hg=>hgrow.block g hg (fun e=>hne e.symm)
 have hpart:∀u y,(vs++vs2)[u]? =some y->(u<vs.length/\vs[u]? =some y)\/(vs.length<=u/\vs2[u-vs.length]? =some y):=fun u y hy=>by
  by_cases hu:u<vs.length
  .rw[aaH hu] at hy
   exact .inl ⟨hu,hy⟩
  .rw[abb (by omega)] at hy
   exact .inr ⟨by omega,hy⟩
 have Su:∀{u:Nat} {x:Value},vs2[u]? =some x->∃l,Bk[u]? =some l:=fun {u x} hx=>⟨_,aac (by rw[<-EN];exact(aah.1 hx).1)⟩
 refine⟨by simp[h.len,EN],by rw[aar];exact hown,fun u y k hy hk=> ?_,fun u u' y y' b hne hy hy' hb=> ?_,fun u y b hy hb=> ?_⟩
 .rcases hpart u y hy with ⟨hu,h1⟩|⟨hu,h1⟩
  .rw[aaH (by rw[<-h.len];exact hu)] at hk
   exact(h.row u y k h1 hk).same fun g hg hl=>hsame g (h.far u y g h1 hg) hl
  .rw[abb (by rw[<-h.len];exact hu),<-h.len] at hk
   exact(Nl _ y k h1 hk).same fun g hg hl=>hsame g (fun e=>hx g ⟨_,y,h1,hg⟩ (.inl e)) hl
 .rcases hpart u y hy with ⟨hu,h1⟩|⟨hu,h1⟩<;>rcases hpart u' y' hy' with ⟨uq,h2⟩|⟨uq,h2⟩
  .exact h.apart u u' y y' b hne h1 h2 hb
  .intro hc
   exact hx b ⟨_,y',h2,hc⟩ (.inr ⟨u,y,h1,hb⟩)
  .intro hc
   exact hx b ⟨_,y,h1,hb⟩ (.inr ⟨u',y',h2,hc⟩)
  .exact GP _ _ y y' b (by omega) h1 h2 hb
 .intro hc
  rcases hat with e|e
  .rw[e] at hc
   rcases hpart u y hy with ⟨hu,h1⟩|⟨hu,h1⟩
   .exact h.far u y b h1 hb hc
   .exact hx b ⟨_,y,h1,hb⟩ (.inl hc)
  .have fP:=aaG (e.symm.trans hc)
   rcases hpart u y hy with ⟨hu,h1⟩|⟨hu,h1⟩
   .obtain⟨k,hk⟩:=h.at h1
    have:=(aap (h.row u y k h1 hk) b hb).2;omega
   .obtain⟨k,hk⟩:=Su h1
    have:=(aap (Nl _ y k h1 hk) b hb).2;omega
theorem ay.within {W:World} (h:ay W B v vs ls) {b:Nat} (hb:v.ownBlock=some b\/cC vs b):B<=b/\b<W.heap.size:=by
 rcases hb with hb|⟨u,x,hx,hb⟩
 .exact aap h.outer b hb
 .obtain⟨l,hl⟩:=h.at hx
  exact aap (h.row u x l hx hl) b hb
end
theorem Db {U:World} {o:Oper} {a:Act} {K:Act->World->Prop} {Q:Exit->Act->World->Prop} (s x:Operand) (ho:o.op= .call { callee:= .builtin .append,args:= #[s,x],argTypes:= #[25,25] })
 (B:Nat) (v:Value) (vs vs2:List Value) (ls Bk:List (List Int)) (hR:ay U B v vs ls) (hB:B<=U.heap.size) (hs:a.eval s=v) (xo:Option Addr) (m c:Nat) (hm:Bk.length=m) (hx:a.eval x= .slice xo m c) (oH:xo=none->c=0)
 (EN:vs2.length=Bk.length) (hnews:∀j u,vs2[j]? =some u->∃ad,xo=some ad/\U.cell? (ad.add j)=some u) (hone:∀u∈vs2,u.oneCell'=true)
 (Nl:∀(u:Nat) (x:Value) (l:List Int),vs2[u]? =some x->Bk[u]? =some l->aj U B x l)
 (GP:∀(u u':Nat) (x x':Value) (b:Nat),u≠u'->vs2[u]? =some x->vs2[u']? =some x'->x.ownBlock=some b->x'.ownBlock≠some b) (qI:∀b,cC vs2 b->¬(v.ownBlock=some b\/cC vs b))
 (hl:(ls.length+m)*24<=140737488355328)
 (h:∀v' w',ay w' B v' (vs++vs2) (ls++Bk)->U.grownBy w' v.ownBlock->(v'.ownBlock=v.ownBlock\/v'.ownBlock=some U.heap.size)->K (a.put o.dst v') w'):o.wp Tryz.prog a U K Q:=by
 obtain⟨i1,hi1,hy0,hy1,hy2⟩:=info_parts Tryz.lK;cases xo with
 |none=>
  have h0:vs2=[]:=by
   cases vs2 with
   |nil=>rfl
   |cons y vs2=>
    obtain⟨ad,e,_⟩:=hnews 0 y rfl;cases e
  subst h0;have h1:Bk=[]:=abM.1 (by rw[<-EN];rfl);subst h1;subst hm;obtain rfl:=oH rfl;have hr:=run_append_owned_none (P:=Tryz.prog) (w:=U) B 25 o.type 55 i1 1 Tryz.underlying25 hi1 v ls.length vs hR.outer;unfold Oper.wp execOp;simp only[ho,resolve,invoke,builtin,aew,aex,ad4,ad7,ab7,adH,hs,hx];rw[abU,hr];refine h v U ?_ ⟨rfl,rfl,rfl,aad _,fun _ _ _=>rfl⟩ (.inl rfl);rw[abQ,abQ];exact hR
 |some ad=>
  obtain⟨v',w',hr,h2,h3,_,h5⟩:=run_append_own_at (P:=Tryz.prog) U B 25 o.type 55 i1 (.slice none 0 0) 1 24 Tryz.underlying25 hi1 hy0 hy1 hy2 rfl (by decide) v ls.length vs hR.outer ad m c vs2 (by rw[EN,hm];omega) (fun j u hj=>by
   obtain⟨ad',e,hc⟩:=hnews j u hj;cases e;exact hc) hone (by unfold maxLen;omega) hl hB
  unfold Oper.wp execOp;simp only[ho,resolve,invoke,builtin,aew,aex,ad4,ad7,ab7,adH,hs,hx,hr];refine h v' w' (hR.more EN Nl GP qI (by rw[hm];exact h2) h3 h5) h3 h5
end
section
open Go.RowKit
abbrev sl (g n:Nat):Value:= .slice (some ⟨g,0,none⟩) n n
def bE (w:World) (p gd gs gh gp gt n M:Nat):Prop:=w.heap[p]? =some (.cells #[sl gd n,sl gs n,sl gh M,sl gp M,sl gt M] 276 (0,0))
section
variable {w w':World} {p gd gs gh gp gt n M:Nat}
theorem bE.lt (h:bE w p gd gs gh gp gt n M):p<w.heap.size:=lt_of_block h
theorem bE.later (h:bE w p gd gs gh gp gt n M) (hb:Below w.heap.size w w'):bE w' p gd gs gh gp gt n M:=(hb.block p h.lt).trans h
theorem bE.other (h:bE w p gd gs gh gp gt n M) {b i:Nat} (hb:p≠b) (x:Value):bE (w.setCell ⟨b,i,none⟩ x) p gd gs gh gp gt n M:=(heap_setCell_other w ⟨b,i,none⟩ p x hb).trans h
theorem bE.wrote {S:Nat->Prop} (h:bE w p gd gs gh gp gt n M) (hw:aq S w w') (hp:¬S p):bE w' p gd gs gh gp gt n M:=(hw.block p h.lt hp).trans h
theorem bE.c0 (h:bE w p gd gs gh gp gt n M):w.cell? ⟨p,0,none⟩=some (.slice (some ⟨gd,0,none⟩) n n):=by unfold bE at h;simp[World.cell?,h]
theorem bE.c1 (h:bE w p gd gs gh gp gt n M):w.cell? ⟨p,1,none⟩=some (.slice (some ⟨gs,0,none⟩) n n):=by unfold bE at h;simp[World.cell?,h]
theorem bE.c2 (h:bE w p gd gs gh gp gt n M):w.cell? ⟨p,2,none⟩=some (.slice (some ⟨gh,0,none⟩) M M):=by unfold bE at h;simp[World.cell?,h]
theorem bE.c3 (h:bE w p gd gs gh gp gt n M):w.cell? ⟨p,3,none⟩=some (.slice (some ⟨gp,0,none⟩) M M):=by unfold bE at h;simp[World.cell?,h]
theorem bE.c4 (h:bE w p gd gs gh gp gt n M):w.cell? ⟨p,4,none⟩=some (.slice (some ⟨gt,0,none⟩) M M):=by unfold bE at h;simp[World.cell?,h]
end
end
section
open Go.Proofs.Tryz
open Go.RowKit
theorem PU (p gd gs gh gp gt gf cf n M:Nat) (H Pl T F:List Int) (h u v q:Nat) (w:World) (hA:bE w p gd gs gh gp gt n M) (iH:aC w gh H) (iP:aC w gp Pl) (iT:aC w gt T) (iF:aC w gf F)
 (lH:H.length=M) (lP:Pl.length=M) (lT:T.length=M) (lF:F.length=n) (hh:h<M) (hu:u<n) (hq:F[u]? =some (q:Int)) (hqM:q<M) (hM:M<=8388608)
 (d2:p≠gp) (d3:p≠gt) (d5:gh≠gp) (d6:gh≠gt) (d7:gp≠gt) (d8:gf≠gh) (d9:gf≠gp) (d10:gf≠gt):
 Calls prog 233 #[.pointer (some ⟨p,0,none⟩),.int .i64 h,.int .i64 u,.int .i64 v,.slice (some ⟨gf,0,none⟩) n cf] w fun e w'=>
  e= .returned (.tuple #[])/\aC w' gh (H.set q h)/\aC w' gp (Pl.set h q)/\aC w' gt (T.set h v)/\aC w' gf (F.set u ((q:Int)+1))/\aq (fun b=>b=gh\/b=gp\/b=gt\/b=gf) w w':=by
 obtain⟨w1,hw1⟩:∃w1,w1=w.setCell ⟨gt,h,none⟩ (.int .i64 v):=⟨_,rfl⟩;obtain⟨w2,hw2⟩:∃w2,w2=w1.setCell ⟨gp,h,none⟩ (.int .i64 q):=⟨_,rfl⟩;obtain⟨w3,hw3⟩:∃w3,w3=w2.setCell ⟨gh,q,none⟩ (.int .i64 h):=⟨_,rfl⟩;obtain⟨x0,hx0⟩:∃x,T[h]? =some x:=⟨_,aac (by omega)⟩;obtain⟨x1,hx1⟩:∃x,Pl[h]? =some x:=⟨_,aac (by omega)⟩;obtain⟨x2,hx2⟩:∃x,H[q]? =some x:=⟨_,aac (by omega)⟩;have A1:=hA.other (i:=h) d3 (.int .i64 v);have H1:=iH.other (i:=h) d6 (.int .i64 v);have P1:=iP.other (i:=h) d7 (.int .i64 v);have T1:=iT.set (i:=h) (by omega) (v:Int);have F1:=iF.other (i:=h) d10 (.int .i64 v);rw[<-hw1] at A1 H1 P1 T1 F1;have A2:=A1.other (i:=h) d2 (.int .i64 q);have H2:=H1.other (i:=h) d5 (.int .i64 q);have P2:=P1.set (i:=h) (by omega) (q:Int);have T2:=T1.other (i:=h) (acs d7) (.int .i64 q);have F2:=F1.other (i:=h) d9 (.int .i64 q);rw[<-hw2] at A2 H2 P2 T2 F2;have H3:=H2.set (i:=q) (by omega) (h:Int);have P3:=P2.other (i:=q) (acs d5) (.int .i64 h);have T3:=T2.other (i:=q) (acs d6) (.int .i64 h);have F3:=F2.other (i:=q) d8 (.int .i64 h);rw[<-hw3] at H3 P3 T3 F3;have H4:=H3.other (i:=u) (acs d8) (.int .i64 ((q:Int)+1));have P4:=P3.other (i:=u) (acs d9) (.int .i64 ((q:Int)+1));have T4:=T3.other (i:=u) (acs d10) (.int .i64 ((q:Int)+1));have F4:=F3.set (i:=u) (by omega) ((q:Int)+1);have hWr:aq (fun b=>b=gh\/b=gp\/b=gt\/b=gf) w (w3.setCell ⟨gf,u,none⟩ (.int .i64 ((q:Int)+1))):=by
  rw[hw3,hw2,hw1];exact((((aq.refl _ w).setCell (.inr (.inr (.inl rfl))) _).setCell (.inr (.inl rfl)) _).setCell (.inl rfl) _).setCell (.inr (.inr (.inr rfl))) _
 have jf:=ζ (And.intro H4 (And.intro P4 (And.intro T4 (And.intro F4 hWr))));have a4:=hA.c4;have a3:=A1.c3;have a2:=A2.c2;have t0:=iT.cell hx0;have tf:=iT.free;have p0:=P1.cell hx1;have pf:=P1.free;have f1:=F1.cell hq;have h0:=H2.cell hx2;have hf:=H2.free;have f2:=F2.cell hq;have f3:=F3.cell hq;have f3f:=F3.free;have CS:=ζ hw1;have DY:=ζ hw2;have uR:=ζ hw3;have s1:w1.heap.size=w.heap.size:=by rw[hw1];simp
 have i0:(0:Int)<=(h:Int):=by omega
 have i1:(h:Int)<(M:Int):=by omega
 have i2:(0:Int)<=(u:Int):=by omega
 have i3:(u:Int)<(n:Int):=by omega
 have i4:(0:Int)<=(q:Int):=by omega
 have i5:(q:Int)<(M:Int):=by omega
 clear hA iH iP iT iF A1 H1 P1 T1 F1 A2 H2 P2 T2 F2 H3 P3 T3 F3 H4 P4 T4 F4 hWr hw1 hw2 hw3 hx0 hx1 hx2 hq lH lP lT lF d2 d3 d5 d6 d7 d8 d9 d10;go_enter func233,ntmps233;go_wp2_with fail;rw[<-CS.out];go_big_region;rw[<-DY.out];go_wp2_with fail;go_big_region;rw[<-uR.out];go_wp2
 go_end0
 exact⟨rfl,jf.out.1,jf.out.2.1,jf.out.2.2.1,jf.out.2.2.2.1,jf.out.2.2.2.2.drew.drew⟩
theorem Fz {w:World} {g n:Nat} {S:List Int} (h:aC w g S) (hl:S.length=n) (hn:n<=8388608) (hw:∀x∈S,-9223372036854775808<=x/\x<=9223372036854775807):xV .i64 8 w (some ⟨g,0,none⟩) n n S:=by
 refine .inr ⟨_,rfl,aad _,by omega,hl,fun i hi=> ?_,fun x hx=>WalkArith.wf_i64 (by have:=hw x hx;omega)⟩;have e:((⟨g,0,none⟩:Addr).add i)=⟨g,i,none⟩:=by
  by_cases h0:i=0<;>simp[Addr.add,h0]
 rw[e];exact h.cell (by rw[aao,aac hi];rfl)
theorem ME (g n:Nat) (S:List Int) (w:World) (h:aC w g S) (hl:S.length=n) (hn:n<=8388608) (hw:∀x∈S,-9223372036854775808<=x/\x<=9223372036854775807):
 Calls prog 92 #[.slice (some ⟨g,0,none⟩) n n] w fun e w'=>∃gf cf,e= .returned (.slice (some ⟨gf,0,none⟩) n cf)/\w.heap.size<=gf/\aC w' gf S/\Below w.heap.size w w':=by
 obtain⟨i0,hi,hz0,hz1,hz2⟩:=info_parts Tryz.b7;have hr:=Fz h hl hn hw;have HR:=ζ hr;have hnil:=fun w=>Lib.run_eql_slice_nil (P:=prog) w 55 3 (some ⟨g,0,none⟩) n n 0 0 Tryz.underlying55
 clear hr h hw;go_enter func92,ntmps92;go_wp2_with (at_builtin;refine Fk rfl _ _ 55 rfl 3 .i64 i0 8 Tryz.underlying55 hi hz0 hz1 hz2 (by decide) w (some ⟨g,0,none⟩) n n S rfl rfl HR.out ?_;refine aaj ?_);refine ζ ?_;intro gb c w1 hrow hgb hlt hc hb;have HX:=ζ hrow;have HB:=ζ hb;have HG:=ζ hgb;clear hrow hb hgb;go_wp2;go_ret;refine⟨gb,c,rfl,HG.out,?_,HB.out⟩;have:=HX.out;rw[aaX (by simp;omega)] at this;exact vT this
def Ky (es:List (Int×Int)) (n M:Nat) (w:World) (e:Ending) (w':World):Prop:=
 ∃(gs:Nat) (S:List Int),e= .returned (.slice (some ⟨gs,0,none⟩) n n)/\w.heap.size<=gs/\gs<w'.heap.size/\aC w' gs S/\S.length=n/\(∀v,v<n->S[v]? =some (Cs.st es M v:Int))/\Below w.heap.size w w'
theorem Hy (es:List (Int×Int)) (gd n M:Nat) (D:List Int) (w:World) (hD:aC w gd D) (hl:D.length=n) (hn:n<=1048576) (hM:M<=8388608) (hd:∀v,v<n->D[v]? =some ((Cs.out es v M).length:Int)) (hf:∀i,i<M->Cs.fr es i<n):
 Calls prog 174 #[.slice (some ⟨gd,0,none⟩) n n] w (Ky es n M w):=by
 obtain⟨i0,hi,hz0,hz1,hz2⟩:=info_parts Tryz.b7;have HD:=ζ hD;have M9:=ζ hd;have HF:=ζ hf;have hlt:=hD.lt;clear hD hd hf;go_enter func174,ntmps174;go_wp2_with (at_make;refine wpList_make_full _ rfl _ _ 55 rfl w.heap.size 3 i0 (.int .i64 0) 1 Tryz.underlying55 hi hz0 hz1 _ _ _ _ n rfl rfl rfl rfl (by rw[hz2];omega) (by unfold maxLen;omega) (aad _) ?_;refine aaj ?_);refine ζ ?_;intro w2 hrow hg2;rw[cK] at hrow;have hik:=(dV hrow).ins;have hb2:Below w.heap.size w w2:=(aae _ _).grown hg2 (aad _) (fun j hj=>by cases hj);have rz:=ζ hik;have aB:=ζ hb2;clear hrow hg2 hik hb2;go_wp2;go_loopw [4,11] (fun s c wr=>∃(k:Nat) (S:List Int),k<=n/\c= .int .i64 k/\s= .int .i64 (Cs.st es M k)/\S.length=n/\(∀v,v<k->S[v]? =some (Cs.st es M v:Int))/\aC wr w.heap.size S/\Below w.heap.size w wr) (fun _ c _=>n-(intOf c).toNat)
 case atStart=>exact⟨0,_,aax _,rfl,rfl,by simp,fun v hv=>by omega,rz.out,aB.out⟩
 case round=>
  obtain⟨k,S,hk,rfl,rfl,hSl,hS,j5,hb⟩:=hrel;have hsz:=j5.lt;have HS:=ζ hS;have HIS:=ζ j5;have HB:=ζ hb;by_cases hkn:k<n
  .have hk0:(0:Int)<=(k:Int):=by omega
   have hk1:(k:Int)<(n:Int):=by omega
   obtain⟨x,hx⟩:∃x,S[k]? =some x:=⟨_,aac (by omega)⟩;have c0:=j5.cell hx;have c1:=j5.free;have n1:=j5.set (i:=k) (by omega) (Cs.st es M k:Int);have lZ:=ζ n1;have d1:(wr.setCell ⟨w.heap.size,k,none⟩ (.int .i64 (Cs.st es M k))).cell? ⟨gd,k,none⟩=some (.int .i64 ((Cs.out es k M).length:Int)):=by
    have:=(HD.out.later hb).cell (M9.out k hkn);rw[<-this];simp[World.cell?,heap_setCell_other wr ⟨w.heap.size,k,none⟩ gd _ (by simp;omega)]
   have HBN:=ζ (hb.setCell (p:=⟨w.heap.size,k,none⟩) (aad _) (.int .i64 (Cs.st es M k:Int)));have hle:=Cs.AH HF.out hkn;have hst:Cs.st es M (k+1)=Cs.st es M k+(Cs.out es k M).length:=rfl;have HST:=ζ hst;have hny:∃y,y=(Cs.out es k M).length:=⟨_,rfl⟩;obtain⟨y,hy⟩:=hny;have hnz:∃z,z=Cs.st es M k:=⟨_,rfl⟩;obtain⟨z,hz⟩:=hnz;have HZ:=ζ hz.symm;rw[<-hy] at d1 hle hst HST;rw[<-hz] at d1 hle hst HST lZ HBN n1 ⊢;clear hS j5 hb n1 hx hst hy hz;go_wp2;go_roundw
   case rel=>
    refine⟨k+1,S.set k z,by omega,by go_num,by rw[HST.out];go_num,by simp[hSl],fun v hv=> ?_,lZ.out,HBN.out⟩;rw[aaI];by_cases e:k=v
    .subst e
     rw[if_pos rfl,if_pos (by omega),HZ.out]
    .rw[if_neg e]
     exact HS.out v (by omega)
   case measure=>simp[intOf];omega
  .have hd:¬((k:Int)<(n:Int)):=by omega
   clear hS j5 hb;go_wp2;go_ret;exact⟨w.heap.size,S,rfl,aad _,hsz,HIS.out,hSl,fun v hv=>HS.out v (by omega),HB.out⟩
def Ff (es:List (Int×Int)) (n M gh gp gt:Nat) (w:World) (e:Ending) (w':World):Prop:=
 e= .returned (.tuple #[])/\(∃H Pl T F:List Int,Cs.mP es n M M H Pl T F/\aC w' gh H/\aC w' gp Pl/\aC w' gt T)/\aq (fun b=>b=gh\/b=gp\/b=gt) w w'
theorem aq.next {S S':Nat->Prop} {w0 w w':World} (h:aq S w0 w) (k:aq S' w w') (hS:∀b,b<w0.heap.size->S' b->S b):aq S w0 w':=
 ⟨k.os.trans h.os,k.tape.trans h.tape,k.output.trans h.output,aaD h.size k.size,fun i hi hn=>(k.block i (aa5 hi h.size) (fun hs=>hn (hS i hi hs))).trans (h.block i hi hn)⟩
def pg (es:List (Int×Int)) (p gd gs gh gp gt gf n M k:Nat) (w:World):Prop:=
 bE w p gd gs gh gp gt n M/\∃H Pl T F:List Int,Cs.mP es n M k H Pl T F/\aC w gh H/\aC w gp Pl/\aC w gt T/\aC w gf F
theorem pg.later {es:List (Int×Int)} {p gd gs gh gp gt gf n M k:Nat} {w w':World} (h:pg es p gd gs gh gp gt gf n M k w) (hb:Below w.heap.size w w'):pg es p gd gs gh gp gt gf n M k w':=by
 obtain⟨hA,H,Pl,T,F,hf,h1,h2,h3,h4⟩:=h;exact⟨hA.later hb,H,Pl,T,F,hf,h1.later hb,h2.later hb,h3.later hb,h4.later hb⟩
structure Oa (p gh gp gt gf:Nat):Prop where
 d1:p≠gh
 d2:p≠gp
 d3:p≠gt
 d4:p≠gf
 d5:gh≠gp
 d6:gh≠gt
 d7:gp≠gt
 d8:gf≠gh
 d9:gf≠gp
 d10:gf≠gt
theorem IV (es:List (Int×Int)) (p gd gs gh gp gt gf cf n M k:Nat) (w:World) (hL:pg es p gd gs gh gp gt gf n M k w) (hlt:∀i,i<M->Cs.fr es i<n) (hk:k<M) (hM:M<=8388608) (hd:Oa p gh gp gt gf):
 Calls prog 233 #[.pointer (some ⟨p,0,none⟩),.int .i64 k,.int .i64 (Cs.fr es k:Int),.int .i64 (Cs.to es k:Int),.slice (some ⟨gf,0,none⟩) n cf] w fun e w'=>
  e= .returned (.tuple #[])/\pg es p gd gs gh gp gt gf n M (k+1) w'/\aq (fun b=>b=gh\/b=gp\/b=gt\/b=gf) w w':=by
 obtain⟨hA,H,Pl,T,F,hf,h1,h2,h3,h4⟩:=hL;refine(PU p gd gs gh gp gt gf cf n M H Pl T F k (Cs.fr es k) (Cs.to es k) (Cs.pos es M k) w hA h1 h2 h3 h4 hf.lH hf.lP hf.lT hf.lF hk (hlt k hk) (hf.at (hlt k hk)) (Cs.Np hlt hk) hM hd.d2 hd.d3 hd.d5 hd.d6 hd.d7 hd.d8 hd.d9 hd.d10).mono ?_;rintro e w' ⟨he,k1,k2,k3,k4,hw⟩;refine⟨he,⟨hA.wrote hw (fun h=> ?_),_,_,_,_,hf.step hlt hk,k1,k2,k3,k4⟩,hw⟩;rcases h with h|h|h|h
 .exact hd.d1 h
 .exact hd.d2 h
 .exact hd.d3 h
 .exact hd.d4 h
theorem PK (es:List (Int×Int)) (ao:Option Addr) (cap p gd gs gh gp gt n M:Nat) (S H Pl T:List Int) (w0 w:World) (hv:Si.Val n es) (hM:M=2*es.length) (he:ah w0 ao es) (hb:Below w0.heap.size w0 w)
 (hA:bE w p gd gs gh gp gt n M) (iS:aC w gs S) (iH:aC w gh H) (iP:aC w gp Pl) (iT:aC w gt T) (lS:S.length=n) (hS:∀v,v<n->S[v]? =some (Cs.st es M v:Int)) (lH:H.length=M) (lP:Pl.length=M) (lT:T.length=M)
 (b1:w0.heap.size<=gh) (b2:w0.heap.size<=gp) (b3:w0.heap.size<=gt) (d1:p≠gh) (d2:p≠gp) (d3:p≠gt) (d5:gh≠gp) (d6:gh≠gt) (d7:gp≠gt):
 Calls prog 175 #[.pointer (some ⟨p,0,none⟩),.slice ao es.length cap] w (Ff es n M gh gp gt w):=by
 have bQ:=hv.few;have hhi:=hv.hi;have hlt:∀i,i<M->Cs.fr es i<n:=fun i hi=>(Cs.dX hv (by omega)).1
 have hwf:∀x∈S,-9223372036854775808<=x/\x<=9223372036854775807:=fun x hx=>by
  obtain⟨v,hv',rfl⟩:=List.getElem_of_mem hx;have h1:=hS v (by omega);rw[aac hv'] at h1;have h2:=Cs.AH (v:=v) hlt (by omega);have h3:=aaG h1;omega
 have hcl:=ME gs n S w iS lS (by omega) hwf;have rB:=ζ hcl;have a1:=hA.c1;have s1:=iH.lt;have s2:=iP.lt;have s3:=iT.lt;have s4:=hA.lt;have HV:=ζ hv;have l5:=ζ hlt;have HE:=ζ he;have HB:=ζ hb;have hF0:Cs.mP es n M 0 H Pl T S:=⟨lH,lP,lT,lS,fun i hi=>by omega,fun i hi=>by omega,fun i hi=>by omega,fun v hv=>by rw[hS v hv];simp[Cs.out]⟩;have HPD:Hid (∀gf,w.heap.size<=gf->Oa p gh gp gt gf):=fun gf hgf=>⟨d1,d2,d3,by omega,d5,d6,d7,by omega,by omega,by omega⟩
 have CY:Hid (∀gf w2,Below w.heap.size w w2->aC w2 gf S->pg es p gd gs gh gp gt gf n M 0 w2):=fun gf w2 hb hi=>⟨hA.later hb,H,Pl,T,S,hF0,iH.later hb,iP.later hb,iT.later hb,hi⟩
 clear hcl hv hlt he hb hA hF0 iS iH iP iT hS hwf lH lP lT lS d1 d2 d3 d5 d6 d7;go_enter func175,ntmps175;go_wp2_with (go_at_call 92;refine rB.out.mono ?_;rintro e w2 ⟨gf,cf,rfl,hgf,mZ,hb2⟩;refine aaj ?_);refine ζ ?_;have aB:=ζ hb2;have nu:=ζ (CY.out gf w2 hb2 mZ);have M3:=ζ (HPD.out gf hgf);have Jy:=mZ.lt;clear hb2 mZ rB;go_wp2;go_loopw [14] (fun c wr=>∃k:Nat,k<=es.length/\c= .int .i64 k/\pg es p gd gs gh gp gt gf n M (2*k) wr/\aq (fun b=>b=gh\/b=gp\/b=gt) w wr) (fun c _=>es.length-(intOf c).toNat)
 case atStart=>exact⟨0,aax _,rfl,nu.out,(aq.refl _ _).later aB.out⟩
 case round=>
  obtain⟨k,hk,rfl,Jt,hwr⟩:=hrel;have ac2:=ζ Jt;have j8:=ζ hwr;by_cases hlt:k<es.length
  .have aQ:(k:Int)<(es.length:Int):=by omega
   have hk0:(0:Int)<=(k:Int):=by omega
   obtain⟨q,hq⟩:∃q,es[k]? =some q:=⟨_,aac hlt⟩;have hb3:Below w0.heap.size w0 wr:=HB.out.trans (hwr.below HB.out.size (fun b hb=>by rcases hb with rfl|rfl|rfl<;>assumption));obtain⟨b,o,rfl,c0,c1⟩:=(HE.out.later hb3) k q hq;have hbl:b<wr.heap.size:=block_lt_of_cell c0;have hok:=HV.out.each k q hq;unfold Si.ok at hok;obtain⟨qu,qv⟩:=q;dsimp only at c0 c1 hok;obtain⟨u,rfl⟩:∃u:Nat,qu=(u:Int):=⟨qu.toNat,by omega⟩;obtain⟨v,rfl⟩:∃v:Nat,qv=(v:Int):=⟨qv.toNat,by omega⟩;obtain⟨e1,e2⟩:=Cs.cY hq;obtain⟨e3,e4⟩:=Cs.gw hq;dsimp only[Int.toNat_natCast] at e1 e2 e3 e4;have mh:=IV es p gd gs gh gp gt gf cf n M (2*k) _ (Jt.later ((aae _ _).alloc (aad _) (.cells #[.int .i64 u,.int .i64 v] 66))) l5.out (by omega) (by omega) M3.out;rw[e1,e2,show((2*k:Nat):Int)=2*(k:Int) by omega] at mh;have hl2:=fun W hW=>IV es p gd gs gh gp gt gf cf n M (2*k+1) W hW l5.out (by omega) (by omega) M3.out
   rw[e3,e4,show((2*k+1:Nat):Int)=2*(k:Int)+1 by omega] at hl2;have oq:=ζ mh;have WH:=ζ hl2;have hnew:(wr.alloc (.cells #[.int .i64 u,.int .i64 v] 66)).heap[wr.heap.size]? =some (.cells #[.int .i64 u,.int .i64 v] 66 (0,0)):=heap_alloc_new wr _;have hsw:=hwr.size;have hpf:=M3.out;have agW:gf<wr.heap.size:=by
    obtain⟨_,_,_,_,_,_,_,_,_,h4⟩:=Jt;exact h4.lt
   have sL:Hid (¬(wr.heap.size=gh\/wr.heap.size=gp\/wr.heap.size=gt\/wr.heap.size=gf)):=by
    show ¬_;omega
   have pR:=ζ hnew;clear mh hl2 Jt hwr hb3 hok hq hnew hpf;go_wp2_with (go_at_call 233;refine oq.out.mono ?_;rintro e w3 ⟨rfl,RT,hw3⟩;refine aaj ?_);refine ζ ?_;have Pr:=(hw3.block wr.heap.size (by simp) sL.out).trans pR.out;obtain⟨x0,x1,-⟩:=af Pr;have WG:=ζ (WH.out w3 RT);have uR:=ζ (((j8.out.alloc _).next hw3 (fun b hb h=>by rcases h with h|h|h|h;exact .inl h;exact .inr (.inl h);exact .inr (.inr h);omega)));have hs3:=hw3.size;have agX:=lt_of_block Pr;clear hw3 RT Pr oq WH pR;go_wp2_with (go_at_call 233;refine WG.out.mono ?_;rintro e w4 ⟨rfl,RS,hw4⟩;refine aaj ?_);refine ζ ?_;have HW4:=ζ (uR.out.next hw4 (fun b hb h=>by rcases h with h|h|h|h;exact .inl h;exact .inr (.inl h);exact .inr (.inr h);omega));have HL4:=ζ RS;clear hw4 RS WG;go_wp2;go_roundw
   case rel=>exact⟨k+1,by omega,by go_num,HL4.out,HW4.out⟩
   case measure=>simp[intOf];omega
  .have hd:¬((k:Int)<(es.length:Int)):=by omega
   obtain rfl:k=es.length:=by omega
   clear Jt hwr;go_wp2
   go_end0
   obtain⟨_,H1,P1,T1,F1,hf,i1,i2,i3,_⟩:=ac2.out;rw[hM] at hf;exact⟨rfl,⟨H1,P1,T1,F1,hf,i1,i2,i3⟩,j8.out⟩
end
end Go.Proofs.YtdbjpbjocmcpkaaGreatDoor
