import Derived.Test.YtdbjpbjocmcpkaaGreatDoorMj36
import Derived.Test.YtdbjpbjocmcpkaaGreatDoorMj09
set_option maxHeartbeats 8000000
set_option maxRecDepth 100000
namespace Go.Proofs.YtdbjpbjocmcpkaaGreatDoor
section
open Go.RowKit Go.Sort
def Fa.all (es:List (Int×Int)) (ls:List (List Int)):List (List Int):=Fa.uq (Fa.ph es ls) (2*es.length)
def aht (c:Int) (R:List (List Int)) (w:World) (e:Ending) (w':World):Prop:=
 Below w.heap.size w w'/\((c≠0/\e= .returned (.tuple #[.slice none 0 0,.int .i64 c]))\/(c=0/\∃v vs,e= .returned (.tuple #[v,.int .i64 0])/\ay w' w.heap.size v vs R))
theorem Gl {n:Int} {es:List (Int×Int)} {ls:List (List Int)} {w:World} {g:Nat} (h0:(Ro.check n es ls).2=0) (hi:aq w g (Ro.kC es ls)):eW w g (2*es.length) (Fa.ph es ls):=by
 have hr:=Ro.ji.1 h0;have hv:=Si.aL.1 hr.val;obtain⟨m,rfl⟩:∃m:Nat,n=(m:Int):=⟨n.toNat,by have:=hv.lo;omega⟩;have bV:=hv.few;refine⟨hi.lt,fun x hx=> ?_,by omega,by omega,Fa.xB hr⟩;rw[Fa.aaQ hx];exact hi.cell (Fa.rV hr (Cs.fC hx)).1
theorem Ii (n:Int) (ao:Option Addr) (ca:Nat) (es:List (Int×Int)) (xo:Option Addr) (xc:Nat) (ls:List (List Int)) (w:World) (he:ah w ao es) (hl:es.length<=4611686018427387904) (hx:bH w xo ls):
 Calls Tryz.prog 205 #[aB n ao es.length ca,.slice xo ls.length xc] w (Py n es ls w):=by
 have hb0:Below w.heap.size w (w.alloc (.cells #[.int .i64 n,.slice ao es.length ca] 24)):=(aaG _ _).alloc (aaF _) _;have HN:=ζ (NR n ao ca es xo xc ls _ (he.later hb0) hl (hx.later hb0));have aI:=ζ hb0;unfold aB at HN ⊢;clear he hx hb0;go_enter Tryz.func205,Tryz.ntmps205;go_wp2_with (go_at_call 257;refine HN.out.mono ?_;intro e w1 hp;obtain⟨hb1,⟨hc,rfl⟩|⟨hc,g,rfl,hg,hi⟩⟩:=hp<;>refine aaI ?_)
 all_goals refine ζ ?_
 .have HB:=ζ (aI.out.trans (hb1.mono aI.out.size))
  have HC:=ζ hc;clear hc hb1;go_wp2;go_ret2;exact⟨HB.out,.inl ⟨HC.out,rfl⟩⟩
 .have HB:=ζ (aI.out.trans (hb1.mono aI.out.size))
  have HG:Hid (w.heap.size<=g):=by have:=aI.out.size;show w.heap.size<=g;omega
  have HC:=ζ hc;have HI:=ζ hi;clear hc hb1 hg hi;go_wp2;go_ret2;exact⟨HB.out,.inr ⟨HC.out,g,rfl,HG.out,HI.out⟩⟩
end
section
open Go.Proofs.Tryz
open Go.RowKit Go.Maps
theorem Mi (a b c:Nat) (w:World) (ha:a<=8388608) (hb:b<=8388608) (hc:c<=8388608):
 Calls prog 208 #[.agg #[.int .i64 (a:Int),.int .i64 (b:Int),.int .i64 (c:Int)]] w fun e w'=>e= .returned (.int .i64 (Fa.gen a b c))/\Below w.heap.size w w':=by
 have HB:=ζ ((aaG w.heap.size w).alloc (aaF _) (.cells #[.int .i64 (a:Int),.int .i64 (b:Int),.int .i64 (c:Int)] 315));unfold Fa.gen;by_cases h:b=0
 .rw[if_pos h]
  have hb0:((b:Int)==0)=true:=by simp[h]
  clear h;go_enter func208,ntmps208;go_wp2;go_ret;exact⟨rfl,HB.out⟩
 .rw[if_neg h]
  have hb0:((b:Int)==0)=false:=by
   have:¬(b:Int)=0:=by omega
   simpa using this
  have q1:IntKind.i64.wrap ((2:Int)-(a:Int))=(2:Int)-(a:Int):=by rw[aaK];omega
  have q2:IntKind.i64.wrap ((2:Int)-(a:Int)+(b:Int))=(2:Int)-(a:Int)+(b:Int):=by rw[aaK];omega
  have q3:IntKind.i64.wrap ((2:Int)-(a:Int)+(b:Int)-(c:Int))=(2:Int)-(a:Int)+(b:Int)-(c:Int):=by rw[aaK];omega
  obtain⟨t,ht⟩:∃t,t=(2:Int)-(a:Int)+(b:Int)-(c:Int):=⟨_,rfl⟩;have h1:t.tdiv 2<=16777216/\-16777216<=t.tdiv 2:=by
   have h2: -25165830<=t/\t<=25165830:=by omega
   rcases Int.le_total 0 t with h0|h0
   .rw[abM h0]
    omega
   .have h3:(-t).tdiv 2=(-t)/2:=abM (by omega)
    have h4:=Int.neg_tdiv t 2;omega
  have q4:IntKind.i64.wrap (t.tdiv 2)=t.tdiv 2:=by rw[aaK];omega
  rw[ht] at q4;clear h ht h1;go_enter func208,ntmps208;go_wp2;go_ret;exact⟨rfl,HB.out⟩
end
section
open Go.Proofs.Tryz
open Go.RowKit Go.Maps
namespace Fa
def gz (N:Nat) (es:List (Int×Int)) (ls:List (List Int)):Int:=(2*(Co.cnt N (cp N es):Int)-(mo N es:Int)-(N:Int)+(es.length:Int)-((all es ls).length:Int)).tdiv 2
theorem wZ {p:Nat->Bool} {g:Nat->Int} {j:Nat} (hp:p j=true):∀c,j<c->bY (fun i=>if p i=true then g i else 0) c=bY (fun i=>if (p i&& !decide (i=j))=true then g i else 0) c+g j
 |0,h=>by omega
 |c+1,h=>by
  show bY (fun i=>if p i=true then g i else 0) c+(if p c=true then g c else 0)=bY (fun i=>if (p i&& !decide (i=j))=true then g i else 0) c+(if (p c&& !decide (c=j))=true then g c else 0)+g j;by_cases e:c=j
  .subst e
   have:bY (fun i=>if p i=true then g i else 0) c=bY (fun i=>if (p i&& !decide (i=c))=true then g i else 0) c:=eG c fun i hi=>by
    have:¬i=c:=by omega
    simp[this]
   rw[this];simp[hp]
  .rw[wZ hp c (by omega)]
   have:(p c&& !decide (c=j))=p c:=by simp[e]
   rw[this];omega
theorem O4 {a b c:Nat} (ha:a<=8388608) (hb:b<=8388608) (hc:c<=8388608):gen a b c<=16777216/\-16777216<=gen a b c:=by
 unfold gen
 split
 .omega
 .obtain⟨t,ht⟩:∃t,t=(2:Int)-(a:Int)+(b:Int)-(c:Int):=⟨_,rfl⟩
  rw[<-ht];have h2: -25165830<=t/\t<=25165830:=by omega
  rcases Int.le_total 0 t with h0|h0
  .rw[abM h0]
   omega
  .have h3:(-t).tdiv 2=(-t)/2:=abM (by omega)
   have h4:=Int.neg_tdiv t 2;omega
theorem G9 {N:Nat} {es:List (Int×Int)} {ls:List (List Int)} (h:Ro.jV N es ls):
 bY (fun j=>gen (cV N es j N) (cE N es j es.length) (zF N es (aR (ph es ls) (2*es.length) (2*es.length)) j (aR (ph es ls) (2*es.length) (2*es.length)).length)) (Co.cnt N (cp N es))=gz N es ls/\
 ∃g:Nat,gz N es ls=(g:Int)/\(all es ls).length+mo N es+N+2*g=2*Co.cnt N (cp N es)+es.length/\g+N<=es.length+Co.cnt N (cp N es):=by
 obtain⟨m,hm⟩:=og (xB h);obtain⟨g,hg,he,hl⟩:=O3 h hm;have hF:(all es ls).length=Co.cnt (2*es.length) m:=Mv (xB h) hm;rw[<-hF] at he;have lM:gz N es ls=(g:Int):=by
  unfold gz;have:(2*(Co.cnt N (cp N es):Int)-(mo N es:Int)-(N:Int)+(es.length:Int)-((all es ls).length:Int))=2*(g:Int):=by omega
  rw[this];exact Int.mul_tdiv_cancel_left _ (by decide)
 refine⟨?_,g,lM,he,hl⟩;rw[lM,<-hg];exact eG _ fun j _=>by rw[Xy h hm j]
end Fa
theorem Uz (i j:Nat):(kJ i).sameKey (kJ j)=decide (i=j):=by
 by_cases e:i=j
 .subst e
  rw[WideAt.sameKey_self (I7 i)];simp
 .rw[Maps.sameKey_ne (fun h=>e (I8 h))]
  simp[e]
theorem BD {ops:Array Oper} {rest:List Oper} {o:Oper} {a:Act} {Q:Exit->Act->World->Prop} (hg:o.guard=none) (it:Operand) (hop:o.op=Op.next it false) (w:World) (b r n:Nat) (D:DataW Unit) (left:Lit->Bool) (cnt:Nat)
 (hit:a.eval it= .pointer (some ⟨r,0,none⟩)) (h:w.ranges prog 3 gu b r n D left cnt) (hl:∀kl,left kl=true->∃j,kl=kJ j)
 (hDone:cnt=0->(∀kl,left kl=false)->wpList prog ops Q rest (a.put o.dst (.tuple #[.bool false])) w)
 (hMore:∀(j:Nat) (x y z:Int) (w':World) (cnt':Nat),left (kJ j)=true->(∀zd,D.atKey (kJ j) zd= .agg [.lit (.int .i64 x),.lit (.int .i64 y),.lit (.int .i64 z)])->w'.ranges prog 3 gu b r n D (fun z=>left z&& !z.sameKey (kJ j)) cnt'->cnt'<cnt->
   w.grownBy w' (some r)->w'.heap.size=w.heap.size->(Instr.entry (.pointer (some ⟨r,0,none⟩))).run prog w'= .ok (.tuple #[.int .i64 (j:Int),.agg #[.int .i64 x,.int .i64 y,.int .i64 z]]) w'->wpList prog ops Q rest (a.put o.dst (.tuple #[.bool true,.int .i64 (j:Int),.agg #[.int .i64 x,.int .i64 y,.int .i64 z]])) w'):
 wpList prog ops Q (o::rest) a w:=
 wpList_next_ranges w hg it hop 3 Qm gu (Value.int .i64) (fun t:Int×Int×Int=> .agg #[.int .i64 t.1,.int .i64 t.2.1,.int .i64 t.2.2]) (fun key kl hkey=>by obtain⟨x,rfl,_⟩:=Maps.keyOf_int_inv Tryz.underlying3 hkey;exact⟨x,rfl⟩)
  (fun v y hv=>by obtain⟨x,y,z,rfl,_⟩:=qQ hv;exact⟨(x,y,z),rfl⟩) b r n D left cnt hit h hDone (fun x t kl y w' cnt' hkey hlk hv hat hrg hlt hgr hsz hen=>by
    obtain⟨x',ex,rfl,-⟩:=Maps.keyOf_int_inv Tryz.underlying3 hkey;cases ex;obtain⟨j,hj⟩:=hl _ hlk;have hxj:x=(j:Int):=by
     unfold kJ at hj;injection hj
    subst hxj;obtain⟨x1,y1,z1,e1,rfl⟩:=qQ hv;obtain⟨t1,t2,t3⟩:=t;simp only[Value.agg.injEq,Array.mk.injEq,acK,Value.int.injEq,true_and,and_true] at e1;obtain⟨rfl,rfl,rfl⟩:=e1;exact hMore j _ _ _ w' cnt' hlk hat hrg hlt hgr hsz hen)
def Bx (c g:Int) (w:World) (e:Ending) (w':World):Prop:=e= .returned (.tuple #[.int .i64 (if c=0 then g else 0),.int .i64 c])/\Below w.heap.size w w'
theorem Mt (n:Int) (ao:Option Addr) (ca:Nat) (es:List (Int×Int)) (xo:Option Addr) (xc:Nat) (ls:List (List Int)) (w:World) (he:ah w ao es) (hl:es.length<=4611686018427387904) (hx:bH w xo ls):
 Calls prog 140 #[aB n ao es.length ca,.slice xo ls.length xc] w (Bx (Ro.check n es ls).2 (Fa.gz n.toNat es ls) w):=by
 have hb0:Below w.heap.size w (w.alloc (.cells #[.int .i64 n,.slice ao es.length ca] 24)):=(aaG _ _).alloc (aaF _) _;have HN:=ζ (Ii n ao ca es xo xc ls _ (he.later hb0) hl (hx.later hb0));have jX:=ζ (heap_alloc_new w (.cells #[.int .i64 n,.slice ao es.length ca] 24));have aI:=ζ hb0;have HE:=ζ he;unfold aB at HN ⊢;obtain⟨C,hC⟩:∃C,C=(Ro.check n es ls).2:=⟨_,rfl⟩;have HC:=ζ hC;rw[<-hC];clear he hx hb0 hC;go_enter func140,ntmps140;go_wp2_with (go_at_call 205;refine HN.out.mono ?_;intro e w1 hp;obtain⟨hb1,⟨hc,rfl⟩|⟨hc,g,rfl,hg,hi⟩⟩:=hp<;>refine aaI ?_)
 all_goals refine ζ ?_
 .have HB:=ζ (aI.out.trans (hb1.mono aI.out.size))
  rw[<-HC.out] at hc ⊢;have hcb:(C != 0)=true:=by simpa using hc
  have lV:=ζ hc;clear hc hb1;go_wp2;go_ret2;exact⟨by rw[if_neg lV.out];rfl,HB.out⟩
 .have hr:=Ro.ji.1 hc
  have hv:=Si.aL.1 hr.val;obtain⟨N,rfl⟩:∃N:Nat,n=(N:Int):=⟨n.toNat,by have:=hv.lo;omega⟩;have hst:=Gl hc hi;have bV:=hv.few;have hhi:=hv.hi;obtain⟨m,ho⟩:=Fa.og hst.uG;have HB:=ζ (aI.out.trans (hb1.mono aI.out.size));have hs1:=HB.out.size;obtain⟨fs,hfs⟩:∃fs,fs=Fa.aR (Fa.ph es ls) (2*es.length) (2*es.length):=⟨_,rfl⟩;have hfl:fs.length<=8388608:=by
   rw[hfs,Fa.mz hst.uG ho (aaF _)];have:=Co.bM (Co.fix m) (2*es.length);omega
  have nU:Hid (∀l∈fs,l≠[]/\Fa.hd l<2*es.length):=fun l hm=>by
   obtain⟨j,hj⟩:=abg hm;rw[hfs] at hj;obtain⟨r,hr,-,rfl,-⟩:=Fa.Mw hst.uG ho hj;exact⟨by unfold Fa.gZ;simp,hr⟩
  have ou:w1.heap[w.heap.size]? =some (.cells #[.int .i64 (N:Int),.slice ao es.length ca] 24 (0,0)):=(hb1.block _ (lt_of_block jX.out)).trans jX.out;have hbd:Below w1.heap.size w1 w1.drew:=(aaG _ _).drew;have HF:Hid (Calls prog 207 #[.slice (some ⟨g,0,none⟩) (2*es.length) (2*es.length)] w1.drew fun e w'=>∃fo fc vs,e= .returned (.slice fo fs.length fc)/\ay w' w1.heap.size (.slice fo fs.length fc) vs (fs.map Fa.zl)/\Below w1.heap.size w1 w'):=by
   refine(Pd g (2*es.length) (Fa.ph es ls) w1.drew (hst.later hbd)).mono ?_;rintro e w' ⟨v,vs,rfl,hr,hb⟩;have hfz:Fa.uq (Fa.ph es ls) (2*es.length)=fs.map Fa.zl:=by rw[hfs];rfl
   rw[hfz] at hr;obtain⟨fo,fc,rfl⟩:=bG hr;rw[aa3] at hr ⊢;exact⟨fo,fc,vs,rfl,hr,hbd.trans hb⟩
  have HP:Hid (∀(U:World) (fo:Option Addr) (fc:Nat) (vs:List Value),Below w1.heap.size w1 U->ay U w1.heap.size (.slice fo fs.length fc) vs (fs.map Fa.zl)->Calls prog 206 #[.agg #[.int .i64 (N:Int),.slice ao es.length ca],.slice fo fs.length fc] U (QX N es fs U)):=fun U fo fc vs hU hR=>by
   obtain⟨xo',xc',e,hrw,-⟩:=hR.rws (fun l hl=>by
    obtain⟨l0,h0,rfl⟩:=abO.1 hl;rw[Fa.l7];obtain⟨j,hj⟩:=abg h0;rw[hfs] at hj;obtain⟨r,hr,-,rfl,-⟩:=Fa.Mw hst.uG ho hj;obtain⟨p,hp⟩:=Fa.xP hst.uG hr;rw[Fa.pU hp,Fa.jG];have:=hp.le;omega)
   rw[aa3] at e;cases e;exact IK N ao ca es fo fc fs.length fs U (HE.out.later (HB.out.trans (hU.mono hs1))) hv hrw rfl hfl nU.out
  have HS:Hid (∀U,Below w1.heap.size w1 U->U.cell? ⟨w.heap.size,0,none⟩=some (.int .i64 (N:Int))/\U.cell? ⟨w.heap.size,1,none⟩=some (.slice ao es.length ca)):=fun U hU=>by
   obtain⟨x0,x1,-⟩:=af ((hU.block _ (lt_of_block ou)).trans ou);exact⟨x0,x1⟩
  have hGE:=(Fa.G9 hr).1;rw[<-hfs] at hGE;have W9:=ζ hGE;rw[<-HC.out] at hc;have lV:=ζ hc;have t0:((0:Int) != 0)=false:=rfl;obtain⟨M,hM⟩:∃M,M=2*es.length:=⟨_,rfl⟩;rw[<-hM] at HF ⊢;have hSd:=HS.out w1.drew hbd;have hS1:=HS.out w1 (aaG _ _);have htn:(N:Int).toNat=N:=by omega
  have HTN:=ζ htn;have yU:=ζ hfl;obtain⟨K,hK⟩:∃K,K=fs.length:=⟨_,rfl⟩;rw[<-hK] at HF HP;have Y7:=ζ hK;clear hc hb1 hg hi hst ho hfs ou hbd hr hv hGE hM htn hfl hK;go_wp2_with fail
  go_region_held3 (fun U=>U.cell? ⟨w.heap.size,0,none⟩=some (.int .i64 (N:Int))/\U.cell? ⟨w.heap.size,1,none⟩=some (.slice ao es.length ca))
   (first|exact hSd|exact hS1|exact D8|exact VF|exact VE)
   (first
     |(go_at_call 207;refine HF.out.mono ?_;rintro e w2 ⟨fo,fc,vs,rfl,hR2,hb2⟩;have D8:=HS.out w2 hb2)
     |(go_at_call 206;refine(HP.out _ _ _ _ hb2 hR2).mono ?_;rintro e w3 ⟨b,nn,rfl,hbl,hnn,hPM,hb3⟩;have lu:=hb2.trans (hb3.mono hb2.size);have VF:=HS.out w3 lu;obtain⟨D,hD,hat,hhas⟩:=hPM;obtain⟨w4,abm,hrg,hg4,hs4⟩:=hD.range (t:=311) Qm Tryz.underlying311;have QE:=lu.grown hg4 lu.size (fun j hj=>by cases hj);have VE:=HS.out w4 QE))
  have ajZ:=QE.size;have aj0:=lu.size;have hs3:=hb3.size;have hs2:=hb2.size;obtain⟨c,hcc⟩:∃c,c=Co.cnt N (Fa.cp N es):=⟨_,rfl⟩;obtain⟨G,hG⟩:∃G:Nat->Int,G=fun j=>Fa.gen (Fa.cV N es j N) (Fa.cE N es j es.length) (Fa.zF N es fs j fs.length):=⟨_,rfl⟩
  have Ak:=ζ hcc;have HG:=ζ hG;have Am:=ζ hat;have aho:=ζ QE;have vF:=hD.size_le;have tK:Hid (∀kl,Maps.has D kl=true->∃j,kl=kJ j/\j<c):=fun kl h=>by
   obtain⟨j,h1,h2⟩:=(hhas kl).1 h;exact⟨j,h1,by rw[hcc];exact of_decide_eq_true h2⟩
  have Wu:Hid ((0:Int)+Fa.bY (fun j=>if Maps.has D (kJ j)=true then G j else 0) c=Fa.gz N es ls):=by
   show(0:Int)+Fa.bY (fun j=>if Maps.has D (kJ j)=true then G j else 0) c=Fa.gz N es ls;rw[<-W9.out,Int.zero_add,<-hcc,hG];refine Fa.eG c fun j hj=> ?_
   rw[if_pos ((hhas (kJ j)).2 ⟨j,rfl,by rw[decide_eq_true_iff,<-hcc];exact hj⟩)]
  have HRG:=ζ hrg;have o8:Hid (∀j,G j<=16777216/\-16777216<=G j/\Fa.cV N es j N<=8388608/\Fa.cE N es j es.length<=8388608/\Fa.zF N es fs j fs.length<=8388608):=fun j=>by
   have h1:Fa.cV N es j N<=N:=Co.bM _ _;have h2:Fa.cE N es j es.length<=es.length:=Co.bM _ _;have h3:Fa.zF N es fs j fs.length<=fs.length:=Co.bM _ _;have h4:=yU.out;rw[hG];have h5:=Fa.O4 (a:=Fa.cV N es j N) (b:=Fa.cE N es j es.length) (c:=Fa.zF N es fs j fs.length) (by omega) (by omega) (by omega);exact⟨h5.1,h5.2,by omega,by omega,by omega⟩
  have JU:Hid (Below w.heap.size w w1):=HB.out;clear abm hrg hg4 hs4 QE VE VF D8 hSd hS1 hD hat hhas hbl hb3 lu hb2 hR2 hcc hG HP HF HS;go_wp2;go_loopw [8] (fun c8 wr=>∃(s:Int) (left:Lit->Bool) (cnt:Nat),c8= .int .i64 s/\wr.ranges prog 3 gu b w3.heap.size nn D left cnt/\(∀kl,left kl=true->∃j,kl=kJ j/\j<c)/\s+Fa.bY (fun j=>if left (kJ j)=true then G j else 0) c=Fa.gz N es ls/\cnt<=nn/\s<=((nn:Int)-(cnt:Int))*16777216/\-(((nn:Int)-(cnt:Int))*16777216)<=s/\Below w1.heap.size w1 wr) (fun _ wr=>wr.rangeLeft b w3.heap.size)
  case atStart=>exact⟨0,_,_,rfl,HRG.out,tK.out,Wu.out,vF,by omega,by omega,aho.out⟩
  case round=>
   obtain⟨s,left,cnt,rfl,hrg,hlf,hsum,oO,pR,ZY,hb⟩:=hrel;obtain⟨W0,rfl⟩:∃W0,W0=wr:=⟨_,rfl⟩;have WD:=ζ hrg;have HLF:=ζ hlf;have rO:=ζ hsum;have yZ:=ζ hb;have aD:=ζ pR;have aA:=ζ ZY;have dO:=hb.size;clear hrg hlf hsum hb pR ZY;go_wp2_with (at_next;refine BD rfl _ rfl W0 b w3.heap.size nn D left cnt rfl WD.out (fun kl h=>by obtain⟨j,h1,-⟩:=HLF.out kl h;exact⟨j,h1⟩) ?_ ?_<;>refine aaI ?_)
   all_goals refine ζ ?_
   .intro hc0 hl0
    have Bp:Hid (s=Fa.gz N es ls):=by
     have:=rO.out;rw[Fa.mV c (fun i _=>by rw[hl0];simp)] at this;show s=Fa.gz N es ls;omega
    clear hc0 hl0;go_wp2;go_ret2;exact⟨by rw[lV.out,if_pos rfl,HTN.out,<-Bp.out];rfl,JU.out.trans (yZ.out.mono hs1)⟩
   .intro j x y z w5 cnt' hlj hat Qv Zx sG hs5 ZI
    obtain⟨j',e1,hjc⟩:=HLF.out _ hlj;have e2:=I8 e1;subst e2;have h0:=Am.out j;rw[hat] at h0;unfold cD at h0;simp only[DataW.agg.injEq,acK,DataW.lit.injEq,Lit.int.injEq,true_and,and_true] at h0;obtain⟨rfl,rfl,rfl⟩:=h0;obtain⟨g1,g2,g3,g4,g5⟩:=o8.out j;have Qu:=Qv.ne;have hb5:Below w1.heap.size w1 w5:=yZ.out.grown sG dO (fun k hk=>by cases hk;omega);have hGj:G j=Fa.gen (Fa.cV N es j N) (Fa.cE N es j es.length) (Fa.zF N es fs j fs.length):=by rw[HG.out]
    have wR:Hid (∀U,Calls prog 208 #[.agg #[.int .i64 (Fa.cV N es j N:Int),.int .i64 (Fa.cE N es j es.length:Int),.int .i64 (Fa.zF N es fs j fs.length:Int)]] U fun e w'=>e= .returned (.int .i64 (G j))/\Below U.heap.size U w'):=fun U=>by
     rw[hGj];exact Mi _ _ _ U g3 g4 g5
    have Z7:Hid ((s+G j)+Fa.bY (fun i=>if (left (kJ i)&& !(kJ i).sameKey (kJ j))=true then G i else 0) c=Fa.gz N es ls):=by
     have h1:=rO.out;rw[Fa.wZ (p:=fun i=>left (kJ i)) hlj c hjc] at h1;have h2:Fa.bY (fun i=>if (left (kJ i)&& !(kJ i).sameKey (kJ j))=true then G i else 0) c=Fa.bY (fun i=>if (left (kJ i)&& !decide (i=j))=true then G i else 0) c:=Fa.eG c fun i _=>by rw[Uz]
     show(s+G j)+_=_;rw[h2];omega
    have b1:=aD.out;have b2:=aA.out;have b3:s+G j<=((nn:Int)-(cnt':Int))*16777216:=by omega
    have b4: -(((nn:Int)-(cnt':Int))*16777216)<=s+G j:=by omega
    have xV:IntKind.i64.wrap (s+G j)=s+G j:=by rw[aaK];omega
    have aac:=ζ Qv;have fM:=ζ hb5;have jr:Hid (s+G j<=((nn:Int)-(cnt':Int))*16777216/\-(((nn:Int)-(cnt':Int))*16777216)<=s+G j):=⟨b3,b4⟩;have HME:Hid (w5.rangeLeft b w3.heap.size<W0.rangeLeft b w3.heap.size):=by
     show _<_;rw[Qv.left_eq,WD.out.left_eq];exact Zx
    have afj:cnt'<=nn:=by omega
    obtain⟨v1,Dv⟩:∃v,v=Fa.cV N es j N:=⟨_,rfl⟩;obtain⟨v2,hv2⟩:∃v,v=Fa.cE N es j es.length:=⟨_,rfl⟩;obtain⟨v3,hv3⟩:∃v,v=Fa.zF N es fs j fs.length:=⟨_,rfl⟩;rw[<-Dv,<-hv2,<-hv3] at ZI wR ⊢;obtain⟨gj,hgj⟩:∃gj,gj=G j:=⟨_,rfl⟩;rw[<-hgj] at wR Z7 jr xV;clear hlj hat Qv Zx sG hs5 e1 hjc g1 g2 g3 g4 g5 Qu hb5 hGj b1 b2 b3 b4 Dv hv2 hv3 hgj;go_wp2_with (go_at_call 208;refine(wR.out _).mono ?_;rintro e w6 ⟨rfl,kL⟩;refine aaI ?_);refine ζ ?_;have DU:Below w5.heap.size w5 w6:=((aaG _ _).alloc (aaF _) _).trans (kL.mono (by simp));have mE:=ζ (fM.out.trans (DU.mono fM.out.size));have WC:Hid (w6.ranges prog 3 gu b w3.heap.size nn D (fun z=>left z&& !z.sameKey (kJ j)) cnt'):=aac.out.kept (row:=none) ⟨DU.os,DU.tape,DU.output,DU.size,fun i hi _=>DU.block i hi⟩ (by simp) (by simp);have agD:Hid (w6.rangeLeft b w3.heap.size<W0.rangeLeft b w3.heap.size):=by
     show _<_;rw[WC.out.left_eq,<-aac.out.left_eq];exact HME.out
    have PN:Hid (∀kl,(left kl&& !kl.sameKey (kJ j))=true->∃j,kl=kJ j/\j<c):=fun kl h=>HLF.out kl (by simp only[abB] at h;exact h.1)
    clear kL DU ZI;go_wp2;go_roundw
    case rel=>exact⟨_,_,_,rfl,WC.out,PN.out,Z7.out,afj,jr.out.1,jr.out.2,mE.out⟩
    case measure=>exact agD.out
theorem Pc (n:Int) (ao:Option Addr) (ca:Nat) (es:List (Int×Int)) (xo:Option Addr) (xc:Nat) (ls:List (List Int)) (w:World) (he:ah w ao es) (hl:es.length<=4611686018427387904) (hx:bH w xo ls):
 Calls prog 95 #[aB n ao es.length ca,.slice xo ls.length xc] w fun e w'=>e= .returned (.bool (decide ((Ro.check n es ls).2=0/\Fa.gz n.toNat es ls=0)))/\Below w.heap.size w w':=by
 have hb0:Below w.heap.size w (w.alloc (.cells #[.int .i64 n,.slice ao es.length ca] 24)):=(aaG _ _).alloc (aaF _) _;have HN:=ζ (Mt n ao ca es xo xc ls _ (he.later hb0) hl (hx.later hb0));have aI:=ζ hb0;unfold aB at HN ⊢;obtain⟨C,hC⟩:∃C,C=(Ro.check n es ls).2:=⟨_,rfl⟩;obtain⟨g,hg⟩:∃g,g=Fa.gz n.toNat es ls:=⟨_,rfl⟩;rw[<-hC,<-hg];rw[<-hC,<-hg] at HN;obtain⟨T,hT⟩:∃T,T=decide (C=0/\g=0):=⟨_,rfl⟩;rw[<-hT];by_cases h0:C=0
 .subst h0
  have t0:((0:Int)==0)=true:=rfl;by_cases h1:g=0
  .have t1:(g==0)=true:=by simpa using h1
   have hD:T=true:=by rw[hT];simp[h1]
   subst hD;have wR:Hid (∀(W W':World) (e:Ending),Bx 0 g W e W'->e= .returned (.tuple #[.int .i64 g,.int .i64 0])/\Below W.heap.size W W'):=fun W W' e h=>⟨h.1,h.2⟩
   clear he hx hb0 hC hg h1 hT;go_enter func95,ntmps95;go_wp2_with (go_at_call 140;refine HN.out.mono ?_;intro e w1 hp;obtain⟨rfl,hb1⟩:=wR.out _ _ _ hp;refine aaI ?_);refine ζ ?_;have HB:=ζ (aI.out.trans (hb1.mono aI.out.size));clear hb1 hp;go_wp2;go_ret;exact⟨rfl,HB.out⟩
  .have t1:(g==0)=false:=by simpa using h1
   have hD:T=false:=by rw[hT];simp[h1]
   subst hD;have wR:Hid (∀(W W':World) (e:Ending),Bx 0 g W e W'->e= .returned (.tuple #[.int .i64 g,.int .i64 0])/\Below W.heap.size W W'):=fun W W' e h=>⟨h.1,h.2⟩
   clear he hx hb0 hC hg h1 hT;go_enter func95,ntmps95;go_wp2_with (go_at_call 140;refine HN.out.mono ?_;intro e w1 hp;obtain⟨rfl,hb1⟩:=wR.out _ _ _ hp;refine aaI ?_);refine ζ ?_;have HB:=ζ (aI.out.trans (hb1.mono aI.out.size));clear hb1 hp;go_wp2;go_ret;exact⟨rfl,HB.out⟩
 .have t0:(C==0)=false:=by simpa using h0
  have hD:T=false:=by rw[hT];simp[h0]
  subst hD;have wR:Hid (∀(W W':World) (e:Ending),Bx C g W e W'->e= .returned (.tuple #[.int .i64 0,.int .i64 C])/\Below W.heap.size W W'):=fun W W' e h=>⟨by rw[h.1,if_neg h0],h.2⟩
  clear he hx hb0 hC hg h0 hT;go_enter func95,ntmps95;go_wp2_with (go_at_call 140;refine HN.out.mono ?_;intro e w1 hp;obtain⟨rfl,hb1⟩:=wR.out _ _ _ hp;refine aaI ?_);refine ζ ?_;have HB:=ζ (aI.out.trans (hb1.mono aI.out.size));clear hb1 hp;go_wp2;go_ret;exact⟨rfl,HB.out⟩
end
end Go.Proofs.YtdbjpbjocmcpkaaGreatDoor
