import Derived.Test.YtdbjpbjocmcpkaaGreatDoorMk26
import Derived.Test.YtdbjpbjocmcpkaaGreatDoorMk09
set_option maxHeartbeats 8000000
set_option maxRecDepth 100000
namespace Go.Proofs.YtdbjpbjocmcpkaaGreatDoor
section
open Go.RowKit Go.Sort
def Fa.all (es:List (Int×Int)) (ls:List (List Int)):List (List Int):=Fa.oC (Fa.ph es ls) (2*es.length)
theorem JP {n:Int} {es:List (Int×Int)} {ls:List (List Int)} {w:World} {g:Nat} (h0:(Ro.check n es ls).2=0) (hi:aq w g (Ro.gZ es ls)):cM w g (2*es.length) (Fa.ph es ls):=by
 have hr:=Ro.fA.1 h0;have hv:=Si.aJ.1 hr.val;obtain⟨m,rfl⟩:∃m:Nat,n=(m:Int):=⟨n.toNat,by have:=hv.lo;omega⟩;have dA:=hv.few;refine⟨hi.lt,fun x hx=> ?_,by omega,by omega,Fa.vD hr⟩;rw[Fa.Rj hx];exact hi.cell (Fa.mO hr (Cs.dV hx)).1
theorem Bu (n:Int) (ao:Option Addr) (ca:Nat) (es:List (Int×Int)) (xo:Option Addr) (xc:Nat) (ls:List (List Int)) (w:World) (he:ah w ao es) (hl:es.length<=4611686018427387904) (hx:bu w xo ls):
 Calls Tryz.prog 205 #[aD n ao es.length ca,.slice xo ls.length xc] w (NI n es ls w):=by
 have hb0:Below w.heap.size w (w.alloc (.cells #[.int .i64 n,.slice ao es.length ca] 24)):=(aaE _ _).alloc (aaD _) _;have HN:=ζ (Ge n ao ca es xo xc ls _ (he.later hb0) hl (hx.later hb0));have aW:=ζ hb0;unfold aD at HN ⊢;clear he hx hb0;go_enter Tryz.func205,Tryz.ntmps205;go_wp2_with (go_at_call 257;refine HN.out.mono ?_;intro e w1 hp;obtain⟨hb1,⟨hc,rfl⟩|⟨hc,g,rfl,hg,hi⟩⟩:=hp<;>refine aaH ?_)
 all_goals refine ζ ?_
 .have HB:=ζ (aW.out.trans (hb1.mono aW.out.size))
  have HC:=ζ hc;clear hc hb1;go_wp2;go_ret2;exact⟨HB.out,.inl ⟨HC.out,rfl⟩⟩
 .have HB:=ζ (aW.out.trans (hb1.mono aW.out.size))
  have HG:Hid (w.heap.size<=g):=by have:=aW.out.size;show w.heap.size<=g;omega
  have HC:=ζ hc;have HI:=ζ hi;clear hc hb1 hg hi;go_wp2;go_ret2;exact⟨HB.out,.inr ⟨HC.out,g,rfl,HG.out,HI.out⟩⟩
end
section
open Go.Proofs.Tryz
open Go.RowKit Go.Maps
theorem EH (a b c:Nat) (w:World) (ha:a<=8388608) (hb:b<=8388608) (hc:c<=8388608):
 Calls prog 208 #[.agg #[.int .i64 (a:Int),.int .i64 (b:Int),.int .i64 (c:Int)]] w fun e w'=>e= .returned (.int .i64 (Fa.gen a b c))/\Below w.heap.size w w':=by
 have HB:=ζ ((aaE w.heap.size w).alloc (aaD _) (.cells #[.int .i64 (a:Int),.int .i64 (b:Int),.int .i64 (c:Int)] 315));unfold Fa.gen;by_cases h:b=0
 .rw[if_pos h]
  have hb0:((b:Int)==0)=true:=by simp[h]
  clear h;go_enter func208,ntmps208;go_wp2;go_ret;exact⟨rfl,HB.out⟩
 .rw[if_neg h]
  have hb0:((b:Int)==0)=false:=by
   have:¬(b:Int)=0:=by omega
   simpa using this
  have q1:IntKind.i64.wrap ((2:Int)-(a:Int))=(2:Int)-(a:Int):=by rw[aaK];omega
  have q2:IntKind.i64.wrap ((2:Int)-(a:Int)+(b:Int))=(2:Int)-(a:Int)+(b:Int):=by rw[aaK];omega
  have q3:IntKind.i64.wrap ((2:Int)-(a:Int)+(b:Int)-(c:Int))=(2:Int)-(a:Int)+(b:Int)-(c:Int):=by rw[aaK];omega
  obtain⟨t,ht⟩:∃t,t=(2:Int)-(a:Int)+(b:Int)-(c:Int):=⟨_,rfl⟩;have h1:t.tdiv 2<=16777216/\-16777216<=t.tdiv 2:=by
   have h2: -25165830<=t/\t<=25165830:=by omega
   rcases Int.le_total 0 t with h0|h0
   .rw[abj h0]
    omega
   .have h3:(-t).tdiv 2=(-t)/2:=abj (by omega)
    have h4:=Int.neg_tdiv t 2;omega
  have q4:IntKind.i64.wrap (t.tdiv 2)=t.tdiv 2:=by rw[aaK];omega
  rw[ht] at q4;clear h ht h1;go_enter func208,ntmps208;go_wp2;go_ret;exact⟨rfl,HB.out⟩
end
section
open Go.Proofs.Tryz
open Go.RowKit Go.Maps
namespace Fa
def gz (N:Nat) (es:List (Int×Int)) (ls:List (List Int)):Int:=(2*(Co.cnt N (cp N es):Int)-(jP N es:Int)-(N:Int)+(es.length:Int)-((all es ls).length:Int)).tdiv 2
theorem qI {p:Nat->Bool} {g:Nat->Int} {j:Nat} (hp:p j=true):∀c,j<c->bA (fun i=>if p i=true then g i else 0) c=bA (fun i=>if (p i&& !decide (i=j))=true then g i else 0) c+g j
 |0,h=>by omega
 |c+1,h=>by
  show bA (fun i=>if p i=true then g i else 0) c+(if p c=true then g c else 0)=bA (fun i=>if (p i&& !decide (i=j))=true then g i else 0) c+(if (p c&& !decide (c=j))=true then g c else 0)+g j;by_cases e:c=j
  .subst e
   have:bA (fun i=>if p i=true then g i else 0) c=bA (fun i=>if (p i&& !decide (i=c))=true then g i else 0) c:=cC c fun i hi=>by
    have:¬i=c:=by omega
    simp[this]
   rw[this];simp[hp]
  .rw[qI hp c (by omega)]
   have:(p c&& !decide (c=j))=p c:=by simp[e]
   rw[this];omega
theorem G7 {a b c:Nat} (ha:a<=8388608) (hb:b<=8388608) (hc:c<=8388608):gen a b c<=16777216/\-16777216<=gen a b c:=by
 unfold gen
 split
 .omega
 .obtain⟨t,ht⟩:∃t,t=(2:Int)-(a:Int)+(b:Int)-(c:Int):=⟨_,rfl⟩
  rw[<-ht];have h2: -25165830<=t/\t<=25165830:=by omega
  rcases Int.le_total 0 t with h0|h0
  .rw[abj h0]
   omega
  .have h3:(-t).tdiv 2=(-t)/2:=abj (by omega)
   have h4:=Int.neg_tdiv t 2;omega
theorem KM {N:Nat} {es:List (Int×Int)} {ls:List (List Int)} (h:Ro.eY N es ls):
 bA (fun j=>gen (cV N es j N) (cE N es j es.length) (zF N es (aQ (ph es ls) (2*es.length) (2*es.length)) j (aQ (ph es ls) (2*es.length) (2*es.length)).length)) (Co.cnt N (cp N es))=gz N es ls/\
 ∃g:Nat,gz N es ls=(g:Int)/\(all es ls).length+jP N es+N+2*g=2*Co.cnt N (cp N es)+es.length/\g+N<=es.length+Co.cnt N (cp N es):=by
 obtain⟨m,hm⟩:=lD (vD h);obtain⟨g,hg,he,hl⟩:=G6 h hm;have hF:(all es ls).length=Co.cnt (2*es.length) m:=ET (vD h) hm;rw[<-hF] at he;have oV:gz N es ls=(g:Int):=by
  unfold gz;have:(2*(Co.cnt N (cp N es):Int)-(jP N es:Int)-(N:Int)+(es.length:Int)-((all es ls).length:Int))=2*(g:Int):=by omega
  rw[this];exact Int.mul_tdiv_cancel_left _ (by decide)
 refine⟨?_,g,oV,he,hl⟩;rw[oV,<-hg];exact cC _ fun j _=>by rw[OB h hm j]
end Fa
theorem Mm (i j:Nat):(kJ i).sameKey (kJ j)=decide (i=j):=by
 by_cases e:i=j
 .subst e
  rw[WideAt.sameKey_self (BW i)];simp
 .rw[Maps.sameKey_ne (fun h=>e (BX h))]
  simp[e]
theorem uT {ops:Array Oper} {rest:List Oper} {o:Oper} {a:Act} {Q:Exit->Act->World->Prop} (hg:o.guard=none) (it:Operand) (hop:o.op=Op.next it false) (w:World) (b r n:Nat) (D:DataW Unit) (left:Lit->Bool) (cnt:Nat)
 (hit:a.eval it= .pointer (some ⟨r,0,none⟩)) (h:w.ranges prog 3 dH b r n D left cnt) (hl:∀kl,left kl=true->∃j,kl=kJ j)
 (hDone:cnt=0->(∀kl,left kl=false)->wpList prog ops Q rest (a.put o.dst (.tuple #[.bool false])) w)
 (hMore:∀(j:Nat) (x y z:Int) (w':World) (cnt':Nat),left (kJ j)=true->(∀zd,D.atKey (kJ j) zd= .agg [.lit (.int .i64 x),.lit (.int .i64 y),.lit (.int .i64 z)])->w'.ranges prog 3 dH b r n D (fun z=>left z&& !z.sameKey (kJ j)) cnt'->cnt'<cnt->
   w.grownBy w' (some r)->w'.heap.size=w.heap.size->(Instr.entry (.pointer (some ⟨r,0,none⟩))).run prog w'= .ok (.tuple #[.int .i64 (j:Int),.agg #[.int .i64 x,.int .i64 y,.int .i64 z]]) w'->wpList prog ops Q rest (a.put o.dst (.tuple #[.bool true,.int .i64 (j:Int),.agg #[.int .i64 x,.int .i64 y,.int .i64 z]])) w'):
 wpList prog ops Q (o::rest) a w:=
 wpList_next_ranges w hg it hop 3 I7 dH (Value.int .i64) (fun t:Int×Int×Int=> .agg #[.int .i64 t.1,.int .i64 t.2.1,.int .i64 t.2.2]) (fun key kl hkey=>by obtain⟨x,rfl,_⟩:=Maps.keyOf_int_inv Tryz.underlying3 hkey;exact⟨x,rfl⟩)
  (fun v y hv=>by obtain⟨x,y,z,rfl,_⟩:=l5 hv;exact⟨(x,y,z),rfl⟩) b r n D left cnt hit h hDone (fun x t kl y w' cnt' hkey hlk hv hat hrg hlt hgr hsz hen=>by
    obtain⟨x',ex,rfl,-⟩:=Maps.keyOf_int_inv Tryz.underlying3 hkey;cases ex;obtain⟨j,hj⟩:=hl _ hlk;have X3:x=(j:Int):=by
     unfold kJ at hj;injection hj
    subst X3;obtain⟨x1,y1,z1,e1,rfl⟩:=l5 hv;obtain⟨t1,t2,t3⟩:=t;simp only[Value.agg.injEq,Array.mk.injEq,ab2,Value.int.injEq,true_and,and_true] at e1;obtain⟨rfl,rfl,rfl⟩:=e1;exact hMore j _ _ _ w' cnt' hlk hat hrg hlt hgr hsz hen)
def JE (c g:Int) (w:World) (e:Ending) (w':World):Prop:=e= .returned (.tuple #[.int .i64 (if c=0 then g else 0),.int .i64 c])/\Below w.heap.size w w'
theorem ES (n:Int) (ao:Option Addr) (ca:Nat) (es:List (Int×Int)) (xo:Option Addr) (xc:Nat) (ls:List (List Int)) (w:World) (he:ah w ao es) (hl:es.length<=4611686018427387904) (hx:bu w xo ls):
 Calls prog 140 #[aD n ao es.length ca,.slice xo ls.length xc] w (JE (Ro.check n es ls).2 (Fa.gz n.toNat es ls) w):=by
 have hb0:Below w.heap.size w (w.alloc (.cells #[.int .i64 n,.slice ao es.length ca] 24)):=(aaE _ _).alloc (aaD _) _;have HN:=ζ (Bu n ao ca es xo xc ls _ (he.later hb0) hl (hx.later hb0));have mC:=ζ (heap_alloc_new w (.cells #[.int .i64 n,.slice ao es.length ca] 24));have aW:=ζ hb0;have HE:=ζ he;unfold aD at HN ⊢;obtain⟨C,hC⟩:∃C,C=(Ro.check n es ls).2:=⟨_,rfl⟩;have HC:=ζ hC;rw[<-hC];clear he hx hb0 hC;go_enter func140,ntmps140;go_wp2_with (go_at_call 205;refine HN.out.mono ?_;intro e w1 hp;obtain⟨hb1,⟨hc,rfl⟩|⟨hc,g,rfl,hg,hi⟩⟩:=hp<;>refine aaH ?_)
 all_goals refine ζ ?_
 .have HB:=ζ (aW.out.trans (hb1.mono aW.out.size))
  rw[<-HC.out] at hc ⊢;have hcb:(C != 0)=true:=by simpa using hc
  have Ok:=ζ hc;clear hc hb1;go_wp2;go_ret2;exact⟨by rw[if_neg Ok.out];rfl,HB.out⟩
 .have hr:=Ro.fA.1 hc
  have hv:=Si.aJ.1 hr.val;obtain⟨N,rfl⟩:∃N:Nat,n=(N:Int):=⟨n.toNat,by have:=hv.lo;omega⟩;have hst:=JP hc hi;have dA:=hv.few;have hhi:=hv.hi;obtain⟨m,ho⟩:=Fa.lD hst.oO;have HB:=ζ (aW.out.trans (hb1.mono aW.out.size));have hs1:=HB.out.size;obtain⟨fs,hfs⟩:∃fs,fs=Fa.aQ (Fa.ph es ls) (2*es.length) (2*es.length):=⟨_,rfl⟩;have hfl:fs.length<=8388608:=by
   rw[hfs,Fa.lX hst.oO ho (aaD _)];have:=Co.bC (Co.fix m) (2*es.length);omega
  have rQ:Hid (∀l∈fs,l≠[]/\Fa.hd l<2*es.length):=fun l hm=>by
   obtain⟨j,hj⟩:=abf hm;rw[hfs] at hj;obtain⟨r,hr,-,rfl,-⟩:=Fa.EU hst.oO ho hj;exact⟨by unfold Fa.eW;simp,hr⟩
  have nr:w1.heap[w.heap.size]? =some (.cells #[.int .i64 (N:Int),.slice ao es.length ca] 24 (0,0)):=(hb1.block _ (lt_of_block mC.out)).trans mC.out;have hbd:Below w1.heap.size w1 w1.drew:=(aaE _ _).drew;have HF:Hid (Calls prog 207 #[.slice (some ⟨g,0,none⟩) (2*es.length) (2*es.length)] w1.drew fun e w'=>∃fo fc vs,e= .returned (.slice fo fs.length fc)/\ay w' w1.heap.size (.slice fo fs.length fc) vs (fs.map Fa.zl)/\Below w1.heap.size w1 w'):=by
   refine(Hl g (2*es.length) (Fa.ph es ls) w1.drew (hst.later hbd)).mono ?_;rintro e w' ⟨v,vs,rfl,hr,hb⟩;have hfz:Fa.oC (Fa.ph es ls) (2*es.length)=fs.map Fa.zl:=by rw[hfs];rfl
   rw[hfz] at hr;obtain⟨fo,fc,rfl⟩:=bJ hr;rw[aaP] at hr ⊢;exact⟨fo,fc,vs,rfl,hr,hbd.trans hb⟩
  have HP:Hid (∀(U:World) (fo:Option Addr) (fc:Nat) (vs:List Value),Below w1.heap.size w1 U->ay U w1.heap.size (.slice fo fs.length fc) vs (fs.map Fa.zl)->Calls prog 206 #[.agg #[.int .i64 (N:Int),.slice ao es.length ca],.slice fo fs.length fc] U (Jz N es fs U)):=fun U fo fc vs hU hR=>by
   obtain⟨XF,XG,e,hrw,-⟩:=hR.rws (fun l hl=>by
    obtain⟨l0,h0,rfl⟩:=abu.1 hl;rw[Fa.nT];obtain⟨j,hj⟩:=abf h0;rw[hfs] at hj;obtain⟨r,hr,-,rfl,-⟩:=Fa.EU hst.oO ho hj;obtain⟨p,hp⟩:=Fa.vG hst.oO hr;rw[Fa.oD hp,Fa.kG];have:=hp.le;omega)
   rw[aaP] at e;cases e;exact BJ N ao ca es fo fc fs.length fs U (HE.out.later (HB.out.trans (hU.mono hs1))) hv hrw rfl hfl rQ.out
  have HS:Hid (∀U,Below w1.heap.size w1 U->U.cell? ⟨w.heap.size,0,none⟩=some (.int .i64 (N:Int))/\U.cell? ⟨w.heap.size,1,none⟩=some (.slice ao es.length ca)):=fun U hU=>by
   obtain⟨x0,x1,-⟩:=af ((hU.block _ (lt_of_block nr)).trans nr);exact⟨x0,x1⟩
  have SA:=(Fa.KM hr).1;rw[<-hfs] at SA;have Tt:=ζ SA;rw[<-HC.out] at hc;have Ok:=ζ hc;have t0:((0:Int) != 0)=false:=rfl;obtain⟨M,hM⟩:∃M,M=2*es.length:=⟨_,rfl⟩;rw[<-hM] at HF ⊢;have VE:=HS.out w1.drew hbd;have hS1:=HS.out w1 (aaE _ _);have htn:(N:Int).toNat=N:=by omega
  have Y7:=ζ htn;have FN:=ζ hfl;obtain⟨K,hK⟩:∃K,K=fs.length:=⟨_,rfl⟩;rw[<-hK] at HF HP;have PX:=ζ hK;clear hc hb1 hg hi hst ho hfs nr hbd hr hv SA hM htn hfl hK;go_wp2_with fail
  go_region_held3 (fun U=>U.cell? ⟨w.heap.size,0,none⟩=some (.int .i64 (N:Int))/\U.cell? ⟨w.heap.size,1,none⟩=some (.slice ao es.length ca))
   (first|exact VE|exact hS1|exact yg|exact Nf|exact Nd)
   (first
     |(go_at_call 207;refine HF.out.mono ?_;rintro e w2 ⟨fo,fc,vs,rfl,hR2,hb2⟩;have yg:=HS.out w2 hb2)
     |(go_at_call 206;refine(HP.out _ _ _ _ hb2 hR2).mono ?_;rintro e w3 ⟨b,nn,rfl,hbl,hnn,YG,hb3⟩;have Ez:=hb2.trans (hb3.mono hb2.size);have Nf:=HS.out w3 Ez;obtain⟨D,hD,hat,hhas⟩:=YG;obtain⟨w4,B6,hrg,hg4,Mw⟩:=hD.range (t:=311) I7 Tryz.underlying311;have Jl:=Ez.grown hg4 Ez.size (fun j hj=>by cases hj);have Nd:=HS.out w4 Jl))
  have Z7:=Jl.size;have Z8:=Ez.size;have hs3:=hb3.size;have hs2:=hb2.size;obtain⟨c,hcc⟩:∃c,c=Co.cnt N (Fa.cp N es):=⟨_,rfl⟩;obtain⟨G,hG⟩:∃G:Nat->Int,G=fun j=>Fa.gen (Fa.cV N es j N) (Fa.cE N es j es.length) (Fa.zF N es fs j fs.length):=⟨_,rfl⟩
  have FR:=ζ hcc;have HG:=ζ hG;have Lt:=ζ hat;have Xs:=ζ Jl;have kY:=hD.size_le;have yZ:Hid (∀kl,Maps.has D kl=true->∃j,kl=kJ j/\j<c):=fun kl h=>by
   obtain⟨j,h1,h2⟩:=(hhas kl).1 h;exact⟨j,h1,by rw[hcc];exact of_decide_eq_true h2⟩
  have NQ:Hid ((0:Int)+Fa.bA (fun j=>if Maps.has D (kJ j)=true then G j else 0) c=Fa.gz N es ls):=by
   show(0:Int)+Fa.bA (fun j=>if Maps.has D (kJ j)=true then G j else 0) c=Fa.gz N es ls;rw[<-Tt.out,Int.zero_add,<-hcc,hG];refine Fa.cC c fun j hj=> ?_
   rw[if_pos ((hhas (kJ j)).2 ⟨j,rfl,by rw[decide_eq_true_iff,<-hcc];exact hj⟩)]
  have Zb:=ζ hrg;have zY:Hid (∀j,G j<=16777216/\-16777216<=G j/\Fa.cV N es j N<=8388608/\Fa.cE N es j es.length<=8388608/\Fa.zF N es fs j fs.length<=8388608):=fun j=>by
   have h1:Fa.cV N es j N<=N:=Co.bC _ _;have h2:Fa.cE N es j es.length<=es.length:=Co.bC _ _;have h3:Fa.zF N es fs j fs.length<=fs.length:=Co.bC _ _;have h4:=FN.out;rw[hG];have h5:=Fa.G7 (a:=Fa.cV N es j N) (b:=Fa.cE N es j es.length) (c:=Fa.zF N es fs j fs.length) (by omega) (by omega) (by omega);exact⟨h5.1,h5.2,by omega,by omega,by omega⟩
  have CQ:Hid (Below w.heap.size w w1):=HB.out;clear B6 hrg hg4 Mw Jl Nd Nf yg VE hS1 hD hat hhas hbl hb3 Ez hb2 hR2 hcc hG HP HF HS;go_wp2;go_loopw [8] (fun c8 wr=>∃(s:Int) (left:Lit->Bool) (cnt:Nat),c8= .int .i64 s/\wr.ranges prog 3 dH b w3.heap.size nn D left cnt/\(∀kl,left kl=true->∃j,kl=kJ j/\j<c)/\s+Fa.bA (fun j=>if left (kJ j)=true then G j else 0) c=Fa.gz N es ls/\cnt<=nn/\s<=((nn:Int)-(cnt:Int))*16777216/\-(((nn:Int)-(cnt:Int))*16777216)<=s/\Below w1.heap.size w1 wr) (fun _ wr=>wr.rangeLeft b w3.heap.size)
  case atStart=>exact⟨0,_,_,rfl,Zb.out,yZ.out,NQ.out,kY,by omega,by omega,Xs.out⟩
  case round=>
   obtain⟨s,left,cnt,rfl,hrg,hlf,hsum,KE,QF,QE,hb⟩:=hrel;obtain⟨W0,rfl⟩:∃W0,W0=wr:=⟨_,rfl⟩;have Ws:=ζ hrg;have Tg:=ζ hlf;have Fx:=ζ hsum;have ID:=ζ hb;have aN:=ζ QF;have aC:=ζ QE;have fZ:=hb.size;clear hrg hlf hsum hb QF QE;go_wp2_with (at_next;refine uT rfl _ rfl W0 b w3.heap.size nn D left cnt rfl Ws.out (fun kl h=>by obtain⟨j,h1,-⟩:=Tg.out kl h;exact⟨j,h1⟩) ?_ ?_<;>refine aaH ?_)
   all_goals refine ζ ?_
   .intro hc0 hl0
    have Ba:Hid (s=Fa.gz N es ls):=by
     have:=Fx.out;rw[Fa.iR c (fun i _=>by rw[hl0];simp)] at this;show s=Fa.gz N es ls;omega
    clear hc0 hl0;go_wp2;go_ret2;exact⟨by rw[Ok.out,if_pos rfl,Y7.out,<-Ba.out];rfl,CQ.out.trans (ID.out.mono hs1)⟩
   .intro j x y z w5 cnt' xN hat Jg Qi Vk hs5 Qs
    obtain⟨j',e1,U9⟩:=Tg.out _ xN;have e2:=BX e1;subst e2;have h0:=Lt.out j;rw[hat] at h0;unfold cD at h0;simp only[DataW.agg.injEq,ab2,DataW.lit.injEq,Lit.int.injEq,true_and,and_true] at h0;obtain⟨rfl,rfl,rfl⟩:=h0;obtain⟨g1,g2,g3,g4,g5⟩:=zY.out j;have Jf:=Jg.ne;have hb5:Below w1.heap.size w1 w5:=ID.out.grown Vk fZ (fun k hk=>by cases hk;omega);have VK:G j=Fa.gen (Fa.cV N es j N) (Fa.cE N es j es.length) (Fa.zF N es fs j fs.length):=by rw[HG.out]
    have CN:Hid (∀U,Calls prog 208 #[.agg #[.int .i64 (Fa.cV N es j N:Int),.int .i64 (Fa.cE N es j es.length:Int),.int .i64 (Fa.zF N es fs j fs.length:Int)]] U fun e w'=>e= .returned (.int .i64 (G j))/\Below U.heap.size U w'):=fun U=>by
     rw[VK];exact EH _ _ _ U g3 g4 g5
    have QN:Hid ((s+G j)+Fa.bA (fun i=>if (left (kJ i)&& !(kJ i).sameKey (kJ j))=true then G i else 0) c=Fa.gz N es ls):=by
     have h1:=Fx.out;rw[Fa.qI (p:=fun i=>left (kJ i)) xN c U9] at h1;have h2:Fa.bA (fun i=>if (left (kJ i)&& !(kJ i).sameKey (kJ j))=true then G i else 0) c=Fa.bA (fun i=>if (left (kJ i)&& !decide (i=j))=true then G i else 0) c:=Fa.cC c fun i _=>by rw[Mm]
     show(s+G j)+_=_;rw[h2];omega
    have b1:=aN.out;have b2:=aC.out;have b3:s+G j<=((nn:Int)-(cnt':Int))*16777216:=by omega
    have b4: -(((nn:Int)-(cnt':Int))*16777216)<=s+G j:=by omega
    have GG:IntKind.i64.wrap (s+G j)=s+G j:=by rw[aaK];omega
    have QO:=ζ Jg;have gY:=ζ hb5;have Oq:Hid (s+G j<=((nn:Int)-(cnt':Int))*16777216/\-(((nn:Int)-(cnt':Int))*16777216)<=s+G j):=⟨b3,b4⟩;have Zs:Hid (w5.rangeLeft b w3.heap.size<W0.rangeLeft b w3.heap.size):=by
     show _<_;rw[Jg.left_eq,Ws.out.left_eq];exact Qi
    have Vs:cnt'<=nn:=by omega
    obtain⟨v1,B5⟩:∃v,v=Fa.cV N es j N:=⟨_,rfl⟩;obtain⟨v2,hv2⟩:∃v,v=Fa.cE N es j es.length:=⟨_,rfl⟩;obtain⟨v3,hv3⟩:∃v,v=Fa.zF N es fs j fs.length:=⟨_,rfl⟩;rw[<-B5,<-hv2,<-hv3] at Qs CN ⊢;obtain⟨gj,Vg⟩:∃gj,gj=G j:=⟨_,rfl⟩;rw[<-Vg] at CN QN Oq GG;clear xN hat Jg Qi Vk hs5 e1 U9 g1 g2 g3 g4 g5 Jf hb5 VK b1 b2 b3 b4 B5 hv2 hv3 Vg;go_wp2_with (go_at_call 208;refine(CN.out _).mono ?_;rintro e w6 ⟨rfl,pZ⟩;refine aaH ?_);refine ζ ?_;have xY:Below w5.heap.size w5 w6:=((aaE _ _).alloc (aaD _) _).trans (pZ.mono (by simp));have tK:=ζ (gY.out.trans (xY.mono gY.out.size));have Wq:Hid (w6.ranges prog 3 dH b w3.heap.size nn D (fun z=>left z&& !z.sameKey (kJ j)) cnt'):=QO.out.kept (row:=none) ⟨xY.os,xY.tape,xY.output,xY.size,fun i hi _=>xY.block i hi⟩ (by simp) (by simp);have WN:Hid (w6.rangeLeft b w3.heap.size<W0.rangeLeft b w3.heap.size):=by
     show _<_;rw[Wq.out.left_eq,<-QO.out.left_eq];exact Zs.out
    have Th:Hid (∀kl,(left kl&& !kl.sameKey (kJ j))=true->∃j,kl=kJ j/\j<c):=fun kl h=>Tg.out kl (by simp only[aaZ] at h;exact h.1)
    clear pZ xY Qs;go_wp2;go_roundw
    case rel=>exact⟨_,_,_,rfl,Wq.out,Th.out,QN.out,Vs,Oq.out.1,Oq.out.2,tK.out⟩
    case measure=>exact WN.out
theorem Hj (n:Int) (ao:Option Addr) (ca:Nat) (es:List (Int×Int)) (xo:Option Addr) (xc:Nat) (ls:List (List Int)) (w:World) (he:ah w ao es) (hl:es.length<=4611686018427387904) (hx:bu w xo ls):
 Calls prog 95 #[aD n ao es.length ca,.slice xo ls.length xc] w fun e w'=>e= .returned (.bool (decide ((Ro.check n es ls).2=0/\Fa.gz n.toNat es ls=0)))/\Below w.heap.size w w':=by
 have hb0:Below w.heap.size w (w.alloc (.cells #[.int .i64 n,.slice ao es.length ca] 24)):=(aaE _ _).alloc (aaD _) _;have HN:=ζ (ES n ao ca es xo xc ls _ (he.later hb0) hl (hx.later hb0));have aW:=ζ hb0;unfold aD at HN ⊢;obtain⟨C,hC⟩:∃C,C=(Ro.check n es ls).2:=⟨_,rfl⟩;obtain⟨g,hg⟩:∃g,g=Fa.gz n.toNat es ls:=⟨_,rfl⟩;rw[<-hC,<-hg];rw[<-hC,<-hg] at HN;obtain⟨T,hT⟩:∃T,T=decide (C=0/\g=0):=⟨_,rfl⟩;rw[<-hT];by_cases h0:C=0
 .subst h0
  have t0:((0:Int)==0)=true:=rfl;by_cases h1:g=0
  .have t1:(g==0)=true:=by simpa using h1
   have hD:T=true:=by rw[hT];simp[h1]
   subst hD;have CN:Hid (∀(W W':World) (e:Ending),JE 0 g W e W'->e= .returned (.tuple #[.int .i64 g,.int .i64 0])/\Below W.heap.size W W'):=fun W W' e h=>⟨h.1,h.2⟩
   clear he hx hb0 hC hg h1 hT;go_enter func95,ntmps95;go_wp2_with (go_at_call 140;refine HN.out.mono ?_;intro e w1 hp;obtain⟨rfl,hb1⟩:=CN.out _ _ _ hp;refine aaH ?_);refine ζ ?_;have HB:=ζ (aW.out.trans (hb1.mono aW.out.size));clear hb1 hp;go_wp2;go_ret;exact⟨rfl,HB.out⟩
  .have t1:(g==0)=false:=by simpa using h1
   have hD:T=false:=by rw[hT];simp[h1]
   subst hD;have CN:Hid (∀(W W':World) (e:Ending),JE 0 g W e W'->e= .returned (.tuple #[.int .i64 g,.int .i64 0])/\Below W.heap.size W W'):=fun W W' e h=>⟨h.1,h.2⟩
   clear he hx hb0 hC hg h1 hT;go_enter func95,ntmps95;go_wp2_with (go_at_call 140;refine HN.out.mono ?_;intro e w1 hp;obtain⟨rfl,hb1⟩:=CN.out _ _ _ hp;refine aaH ?_);refine ζ ?_;have HB:=ζ (aW.out.trans (hb1.mono aW.out.size));clear hb1 hp;go_wp2;go_ret;exact⟨rfl,HB.out⟩
 .have t0:(C==0)=false:=by simpa using h0
  have hD:T=false:=by rw[hT];simp[h0]
  subst hD;have CN:Hid (∀(W W':World) (e:Ending),JE C g W e W'->e= .returned (.tuple #[.int .i64 0,.int .i64 C])/\Below W.heap.size W W'):=fun W W' e h=>⟨by rw[h.1,if_neg h0],h.2⟩
  clear he hx hb0 hC hg h0 hT;go_enter func95,ntmps95;go_wp2_with (go_at_call 140;refine HN.out.mono ?_;intro e w1 hp;obtain⟨rfl,hb1⟩:=CN.out _ _ _ hp;refine aaH ?_);refine ζ ?_;have HB:=ζ (aW.out.trans (hb1.mono aW.out.size));clear hb1 hp;go_wp2;go_ret;exact⟨rfl,HB.out⟩
end
end Go.Proofs.YtdbjpbjocmcpkaaGreatDoor
