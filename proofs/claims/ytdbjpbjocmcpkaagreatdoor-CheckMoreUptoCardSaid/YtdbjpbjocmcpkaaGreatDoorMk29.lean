import Derived.Test.YtdbjpbjocmcpkaaGreatDoorMk28
import Derived.Deep.LoopGhost
set_option maxHeartbeats 4000000
set_option maxRecDepth 100000
namespace Go.Proofs.YtdbjpbjocmcpkaaGreatDoor
section
open Go.Proofs.Tryz
open Go.RowKit
def bQ (w:World) (v:Value) (n:Nat) (es:List (Int×Int)):Prop:=(v= .pointer none/\n=0/\es=[])\/∃B p,v= .pointer (some ⟨p,0,none⟩)/\Si.Val n es/\mE w B p n es
theorem bQ.later {w w':World} {v:Value} {n:Nat} {es:List (Int×Int)} (h:bQ w v n es) (hb:Below w.heap.size w w'):bQ w' v n es:=by
 rcases h with h|⟨B,p,h1,h2,h3⟩
 .exact .inl h
 .exact .inr ⟨B,p,h1,h2,h3.later hb⟩
theorem bQ.bounds {w:World} {v:Value} {n:Nat} {es:List (Int×Int)} (h:bQ w v n es):n<=1048576/\es.length<=4194304:=by
 rcases h with ⟨_,rfl,rfl⟩|⟨B,p,_,h2,_⟩
 .simp
 .have:=h2.hi
  have:=h2.few;omega
theorem Jw (v:Value) (n:Nat) (es:List (Int×Int)) (w:World) (h:bQ w v n es):Calls prog 123 #[v] w fun e w'=>e= .returned (.int .i64 (n:Int))/\w'=w:=by
 rcases h with ⟨rfl,rfl,rfl⟩|⟨B,p,rfl,hv,gd,gs,gh,gp,gt,h⟩
 .go_enter func123,ntmps123
  go_wp2;go_ret;exact⟨rfl,rfl⟩
 .have c0:=h.blk.c0
  clear h;go_enter func123,ntmps123;go_wp2;go_ret;exact⟨rfl,rfl⟩
theorem Jy (v:Value) (n:Nat) (es:List (Int×Int)) (w:World) (h:bQ w v n es):Calls prog 177 #[v] w fun e w'=>e= .returned (.int .i64 (es.length:Int))/\w'=w:=by
 have hb:=h.bounds;rcases h with ⟨rfl,rfl,rfl⟩|⟨B,p,rfl,hv,gd,gs,gh,gp,gt,h⟩
 .go_enter func177,ntmps177
  go_wp2;go_ret;exact⟨rfl,rfl⟩
 .have c4:=h.blk.c4
  have Pk:(2*(es.length:Int)).tdiv 2=es.length:=by rw[abj (by omega)];omega
  clear h;go_enter func177,ntmps177;go_wp2;go_ret;exact⟨rfl,rfl⟩
theorem nu (v:Value) (n:Nat) (es:List (Int×Int)) (x:Int) (w:World) (h:bQ w v n es):Calls prog 261 #[v,.int .i64 x] w fun e w'=>e= .returned (.bool (decide (0<=x/\x<(n:Int))))/\w'=w:=by
 have HN:=ζ (Jw v n es w h);clear h;by_cases h0:0<=x
 .have hd:decide (0<=x/\x<(n:Int))=decide (x<(n:Int)):=by simp[h0]
  rw[hd];go_enter func261,ntmps261;go_wp2_with (go_at_call 123;refine HN.out.mono ?_;rintro e w1 ⟨rfl,rfl⟩);go_ret;exact⟨rfl,rfl⟩
 .have hd:decide (0<=x/\x<(n:Int))=false:=by simp[h0]
  rw[hd];go_enter func261,ntmps261;go_wp2_with (go_at_call 123;refine HN.out.mono ?_;rintro e w1 ⟨rfl,rfl⟩);go_ret;exact⟨rfl,rfl⟩
theorem lR (v:Value) (n:Nat) (es:List (Int×Int)) (x:Int) (w:World) (h:bQ w v n es):Calls prog 236 #[v,.int .i64 x] w fun e w'=>e= .returned (.bool (decide (0<=x/\x<2*(es.length:Int))))/\w'=w:=by
 have HN:=ζ (Jy v n es w h);have hb:=h.bounds;clear h;by_cases h0:0<=x
 .have hd:decide (0<=x/\x<2*(es.length:Int))=decide (x<2*(es.length:Int)):=by simp[h0]
  rw[hd];go_enter func236,ntmps236;go_wp2_with (go_at_call 177;refine HN.out.mono ?_;rintro e w1 ⟨rfl,rfl⟩);go_ret;exact⟨rfl,rfl⟩
 .have hd:decide (0<=x/\x<2*(es.length:Int))=false:=by simp[h0]
  rw[hd];go_enter func236,ntmps236;go_wp2_with (go_at_call 177;refine HN.out.mono ?_;rintro e w1 ⟨rfl,rfl⟩);go_ret;exact⟨rfl,rfl⟩
theorem Bp (v:Value) (n:Nat) (es:List (Int×Int)) (x:Int) (w:World) (h:bQ w v n es):Calls prog 238 #[v,.int .i64 x] w fun e w'=>e= .returned (.int .i64 (Cs.toI es x))/\w'=w:=by
 have HV:=ζ (lR v n es x w h);by_cases hx:0<=x/\x<2*(es.length:Int)
 .rw[decide_eq_true hx] at HV
  rcases h with ⟨rfl,rfl,rfl⟩|⟨B,p,rfl,hv,gd,gs,gh,gp,gt,h⟩
  .simp at hx;omega
  .obtain⟨u,rfl⟩:∃u:Nat,x=(u:Int):=⟨x.toNat,by omega⟩
   obtain⟨x0,x1⟩:=hx;have c0:=h.blk.c4;have d0:=h.goes u (by omega);rw[Cs.toI_in (by omega)];clear h hv;go_enter func238,ntmps238;go_wp2_with (go_at_call 236;refine HV.out.mono ?_;rintro e w1 ⟨rfl,rfl⟩);go_ret;exact⟨rfl,rfl⟩
 .rw[decide_eq_false hx] at HV
  rw[Cs.toI_no hx];clear h hx;go_enter func238,ntmps238;go_wp2_with (go_at_call 236;refine HV.out.mono ?_;rintro e w1 ⟨rfl,rfl⟩);go_ret;exact⟨rfl,rfl⟩
theorem AW (v:Value) (n:Nat) (es:List (Int×Int)) (x:Int) (w:World) (h:bQ w v n es):Calls prog 237 #[v,.int .i64 x] w fun e w'=>e= .returned (.int .i64 (Cs.KO es x))/\w'=w:=by
 have HV:=ζ (lR v n es x w h);by_cases hx:0<=x/\x<2*(es.length:Int)
 .rw[decide_eq_true hx] at HV
  rcases h with ⟨rfl,rfl,rfl⟩|⟨B,p,rfl,hv,gd,gs,gh,gp,gt,h⟩
  .simp at hx;omega
  .obtain⟨u,rfl⟩:∃u:Nat,x=(u:Int):=⟨x.toNat,by omega⟩
   obtain⟨x0,x1⟩:=hx;have ht:=Cs.dV (i:=u) (m:=es.length) (by omega);have c0:=h.blk.c4;have dA:=hv.few;have O6:=Cs.kF u (by omega);have Mu:(0:Int)<=(Cs.twin u:Int):=by omega
   have zD:(Cs.twin u:Int)<2*(es.length:Int):=by omega
   have d0:=h.goes (Cs.twin u) ht;rw[Cs.oA (by omega)];rw[Cs.wk] at d0;clear h hv;go_enter func237,ntmps237;go_wp2_with (go_at_call 236;refine HV.out.mono ?_;rintro e w1 ⟨rfl,rfl⟩);go_ret;exact⟨rfl,rfl⟩
 .rw[decide_eq_false hx] at HV
  rw[Cs.Pu hx];clear h hx;go_enter func237,ntmps237;go_wp2_with (go_at_call 236;refine HV.out.mono ?_;rintro e w1 ⟨rfl,rfl⟩);go_ret;exact⟨rfl,rfl⟩
def Li (n:Nat) (es:List (Int×Int)) (x:Int) (w0 w:World) (e:Ending) (w':World):Prop:=
 ∃ao cap,e= .returned (.slice ao (Cs.iy n es x).length cap)/\aZ w0 ao (Cs.iy n es x)/\∃k,w'=w.drewN k
theorem BS (v:Value) (n:Nat) (es:List (Int×Int)) (x:Int) (w0 w:World) (h0:bQ w0 v n es) (hb:Below w0.heap.size w0 w):Calls prog 270 #[v,.int .i64 x] w (Li n es x w0 w):=by
 have HV:=ζ (nu v n es x w (h0.later hb));by_cases hx:0<=x/\x<(n:Int)
 .rw[decide_eq_true hx] at HV
  rcases h0 with ⟨rfl,rfl,rfl⟩|⟨B,p,rfl,hv,gd,gs,gh,gp,gt,h0⟩
  .omega
  .obtain⟨u,rfl⟩:∃u:Nat,x=(u:Int):=⟨x.toNat,by omega⟩
   obtain⟨x0,x1⟩:=hx;have mY:u<n:=by omega
   have h:=h0.same hb.size fun k _ h2=>hb.block k h2
   have c0:=h.blk.c0;have c1:=h.blk.c1;have c2:=h.blk.c2;have d0:=h.fE u mY;have d1:=h.start u mY;have hlt:∀i,i<2*es.length->Cs.fr es i<n:=fun i hi=>(Cs.dG hv hi).1
   have hle:=Cs.wz hlt mY;have dA:=hv.few;have xP:=h0.half;have hcell:∀(j:Nat) (z:Int),(Cs.iy n es u)[j]? =some z->w0.cell? ⟨gh,Cs.st es (2*es.length) u+j,none⟩=some (.int .i64 z):=fun j z hj=>by
    unfold Cs.iy at hj;rw[aaY,Cs.kO mY] at hj;obtain⟨i,hi,rfl⟩:=abg.1 hj;obtain⟨h1,h2,h3⟩:=Cs.jN hi;have:=xP i h1;unfold Cs.pos at this;rw[h2,h3] at this;exact this
   have fY:(Cs.iy n es u).length=(Cs.out es u (2*es.length)).length:=by rw[Cs.J6,Cs.kO mY]
   have HC:=ζ hcell;have jI:=ζ fY;obtain⟨s,hs⟩:∃s,Cs.st es (2*es.length) u=s:=⟨_,rfl⟩;obtain⟨d,hd⟩:∃d,(Cs.out es u (2*es.length)).length=d:=⟨_,rfl⟩;rw[hs] at d1 hle HC;rw[hd] at d0 hle jI;have s0:(0:Int)<=(s:Int):=by omega
   have s1:(s:Int)<=2*(es.length:Int):=by omega
   have s2:(0:Int)<=(d:Int):=by omega
   have s3:(d:Int)<=2*(es.length:Int)-(s:Int):=by omega
   clear h h0 hb hv hlt xP hcell fY hs hd;go_enter func270,ntmps270;go_wp2_with (go_at_call 261;refine HV.out.mono ?_;rintro e w1 ⟨rfl,rfl⟩);go_quiet (fail);obtain⟨A,hA⟩:∃A:Option Addr,(if 2*es.length=s then some ⟨gh,0,none⟩ else some ⟨gh,s,none⟩)=A:=⟨_,rfl⟩;rw[hA];have HA:=ζ hA;clear hA;go_wp2;go_ret;refine⟨A,_,by rw[jI.out];rfl,fun j z hj=> ?_,nq,rfl⟩;have hjl:=(aaF.1 hj).1;rw[jI.out] at hjl;have:=HA.out;rw[if_neg (by omega)] at this;exact⟨gh,s,this.symm,HC.out j z hj⟩
 .rw[decide_eq_false hx] at HV
  have ho:Cs.iy n es x=[]:=by unfold Cs.iy;rw[Cs.Dy hx];rfl
  have HO:=ζ ho;clear h0 hb hx ho;go_enter func270,ntmps270;go_wp2_with (go_at_call 261;refine HV.out.mono ?_;rintro e w1 ⟨rfl,rfl⟩);go_ret;refine⟨none,0,by rw[HO.out];rfl,by rw[HO.out];exact aZ.nil _ _,0,rfl⟩
end
section
open Go.Proofs.Tryz
open Go.RowKit
def Cs.oB (n:Nat) (es:List (Int×Int)) (x:Int):Int:=(Cs.iy n es x).getD 0 (-1)
theorem Hg (v:Value) (n:Nat) (es:List (Int×Int)) (x:Int) (w:World) (h:bQ w v n es):Calls prog 234 #[v,.int .i64 x] w fun e w'=>e= .returned (.int .i64 (Cs.oB n es x))/\∃k,w'=w.drewN k:=by
 have HL:=ζ (BS v n es x w w h (aaE _ _));clear h;unfold Cs.oB;cases hL:Cs.iy n es x with
 |nil=>
  have nP:Hid (Calls prog 270 #[v,.int .i64 x] w fun e w'=>∃ao cap,e= .returned (.slice ao 0 cap)/\∃k,w'=w.drewN k):=HL.out.mono (by
   rintro e w' ⟨ao,cap,h1,_,h3⟩;rw[hL] at h1;exact⟨ao,cap,h1,h3⟩)
  clear HL hL;go_enter func234,ntmps234;go_wp2_with (go_at_call 270;refine nP.out.mono ?_;rintro e w1 ⟨ao,cap,rfl,k,rfl⟩);go_ret;exact⟨rfl,k,rfl⟩
 |cons z L=>
  have nP:Hid (Calls prog 270 #[v,.int .i64 x] w fun e w'=>∃b o cap k,e= .returned (.slice (some ⟨b,o,none⟩) (L.length+1) cap)/\w.cell? ⟨b,o,none⟩=some (.int .i64 z)/\w'=w.drewN k):=HL.out.mono (by
   rintro e w' ⟨ao,cap,h1,h2,k,h3⟩;rw[hL] at h1 h2;obtain⟨b,o,rfl,h4⟩:=h2 0 z rfl;exact⟨b,o,cap,k,h1,h4,h3⟩)
  have hne:((L.length:Int)+1==0)=false:=by simp;omega
  clear HL hL;go_enter func234,ntmps234;go_wp2_with (go_at_call 270;refine nP.out.mono ?_;rintro e w1 ⟨b,o,cap,k,rfl,hc,rfl⟩);go_ret;exact⟨rfl,k,rfl⟩
def Cs.jU (n:Nat) (es:List (Int×Int)) (x:Int):Int:=
 if 0<=x/\x<2*(es.length:Int) then (Cs.iy n es (Cs.fr es x.toNat)).getD ((Cs.out es (Cs.fr es x.toNat) x.toNat).length+1) (-1) else -1
theorem Cs.Ia {n:Nat} {es:List (Int×Int)} {x:Int} (h:¬(0<=x/\x<2*(es.length:Int))):Cs.jU n es x= -1:=by unfold Cs.jU;rw[if_neg h]
theorem H9 (v:Value) (n:Nat) (es:List (Int×Int)) (x:Int) (w:World) (h:bQ w v n es):Calls prog 182 #[v,.int .i64 x] w fun e w'=>e= .returned (.int .i64 (Cs.jU n es x))/\∃k,w'=w.drewN k:=by
 have HV:=ζ (lR v n es x w h);have HF:=ζ (AW v n es x w h);by_cases hx:0<=x/\x<2*(es.length:Int)
 .rw[decide_eq_true hx] at HV
  rcases h with ⟨rfl,rfl,rfl⟩|⟨B,p,rfl,hv,gd,gs,gh,gp,gt,h⟩
  .simp at hx;omega
  .obtain⟨i,rfl⟩:∃u:Nat,x=(u:Int):=⟨x.toNat,by omega⟩
   have hi:i<2*es.length:=by omega
   have hlt:∀i,i<2*es.length->Cs.fr es i<n:=fun i hi=>(Cs.dG hv hi).1
   have mY:=hlt i hi;rw[Cs.oA hi] at HF;have ea:Cs.jU n es i=(Cs.iy n es (Cs.fr es i)).getD ((Cs.out es (Cs.fr es i) i).length+1) (-1):=by
    unfold Cs.jU;rw[if_pos hx,abb]
   rw[ea];have hle:=Cs.wz hlt mY;have hol:=Cs.og (es:=es) (k:=2*es.length) hi rfl;have dA:=hv.few;have c0:=h.blk.c0;have c1:=h.blk.c1;have c2:=h.blk.c2;have c3:=h.blk.c3;have d0:=h.fE _ mY;have d1:=h.start _ mY;have d3:=h.place i hi;have xP:=h.half;have hpos:Cs.pos es (2*es.length) i=Cs.st es (2*es.length) (Cs.fr es i)+(Cs.out es (Cs.fr es i) i).length:=rfl;rw[hpos] at d3;obtain⟨j,hj⟩:∃j,(Cs.out es (Cs.fr es i) i).length=j:=⟨_,rfl⟩;rw[hj] at d3 hol ⊢;have oU:∀(q:Nat),(Cs.out es (Cs.fr es i) (2*es.length))[j+1]? =some q->w.cell? ⟨gh,Cs.st es (2*es.length) (Cs.fr es i)+(j+1),none⟩=some (.int .i64 (q:Int)):=fun q hq=>by
    obtain⟨h1,h2,h3⟩:=Cs.jN hq;have:=xP q h1;unfold Cs.pos at this;rw[h2,h3] at this;exact this
   unfold Cs.iy;rw[aaI,aaY,Cs.kO mY];obtain⟨f,hf⟩:∃f,Cs.fr es i=f:=⟨_,rfl⟩;rw[hf] at HF hle hol d0 d1 d3 oU mY ⊢;obtain⟨O,hO⟩:∃O,Cs.out es f (2*es.length)=O:=⟨_,rfl⟩;rw[hO] at hle hol d0 oU ⊢;obtain⟨s,hs⟩:∃s,Cs.st es (2*es.length) f=s:=⟨_,rfl⟩;rw[hs] at hle d1 d3 oU;have z0:(0:Int)<=(i:Int):=by omega
   have z1:(i:Int)<2*(es.length:Int):=by omega
   have z2:(0:Int)<=(f:Int):=by omega
   have z3:(f:Int)<(n:Int):=by omega
   clear h hv hlt xP hf hO hs hj ea hpos hx;by_cases fk:j+1=O.length
   .have hge:O[j+1]? =none:=aaS (by omega)
    rw[hge];have he:((s:Int)+(j:Int)+1==(s:Int)+(O.length:Int))=true:=by simp;omega
    clear oU hge;go_enter func182,ntmps182;go_wp2_with (first|(go_at_call 236;refine HV.out.mono ?_;rintro e w1 ⟨rfl,rfl⟩)|(go_at_call 237;refine HF.out.mono ?_;rintro e w1 ⟨rfl,rfl⟩));go_quiet (fail);go_wp2;go_ret;exact⟨rfl,_,rfl⟩
   .obtain⟨q,hq⟩:∃q,O[j+1]? =some q:=⟨_,aaC (by omega)⟩
    have hc:=oU q hq;rw[hq];have he:((s:Int)+(j:Int)+1==(s:Int)+(O.length:Int))=false:=by simp;omega
    have z4:(0:Int)<=(s:Int)+(j:Int)+1:=by omega
    have z5:(s:Int)+(j:Int)+1<2*(es.length:Int):=by omega
    have z6:((s:Int)+(j:Int)+1).toNat=s+(j+1):=by omega
    clear oU hq;go_enter func182,ntmps182;go_wp2_with (first|(go_at_call 236;refine HV.out.mono ?_;rintro e w1 ⟨rfl,rfl⟩)|(go_at_call 237;refine HF.out.mono ?_;rintro e w1 ⟨rfl,rfl⟩));go_quiet (fail);go_wp2;go_ret;exact⟨rfl,_,rfl⟩
 .rw[decide_eq_false hx] at HV
  rw[Cs.Ia hx];clear h hx HF;go_enter func182,ntmps182;go_wp2_with (go_at_call 236;refine HV.out.mono ?_;rintro e w1 ⟨rfl,rfl⟩);go_ret;exact⟨rfl,0,rfl⟩
end
section
open Go.Proofs.Tryz
open Go.RowKit
theorem jT (v:Value) (n:Nat) (es:List (Int×Int)) (x:Int) (w:World) (h:bQ w v n es):Calls prog 209 #[v,.int .i64 x] w fun e w'=>e= .returned (.int .i64 ((Cs.uf n es x).length:Int))/\w'=w:=by
 have HV:=ζ (nu v n es x w h);by_cases hx:0<=x/\x<(n:Int)
 .rw[decide_eq_true hx] at HV
  rcases h with ⟨rfl,rfl,rfl⟩|⟨B,p,rfl,hv,gd,gs,gh,gp,gt,h⟩
  .omega
  .obtain⟨u,rfl⟩:∃u:Nat,x=(u:Int):=⟨x.toNat,by omega⟩
   obtain⟨x0,x1⟩:=hx;have c0:=h.blk.c0;have d0:=h.fE u (by omega);rw[Cs.kO (by omega)];clear h hv;go_enter func209,ntmps209;go_wp2_with (go_at_call 261;refine HV.out.mono ?_;rintro e w1 ⟨rfl,rfl⟩);go_ret;exact⟨rfl,rfl⟩
 .rw[decide_eq_false hx] at HV
  rw[Cs.Dy hx];clear h hx;go_enter func209,ntmps209;go_wp2_with (go_at_call 261;refine HV.out.mono ?_;rintro e w1 ⟨rfl,rfl⟩);go_ret;exact⟨rfl,rfl⟩
end
section
open Go.Proofs.Tryz
open Go.RowKit
theorem Ku.SK (W:World) (q:Nat):Below W.heap.size W (W.drewN q):=⟨rfl,rfl,rfl,aaD _,fun _ _=>rfl⟩
namespace Ku
section
variable {n:Nat} {es:List (Int×Int)}
theorem wU {v:Nat} (h:v<n):Cs.iy n es (v:Int)=(Cs.out es v (2*es.length)).map fun i:Nat=>(i:Int):=by
 unfold Cs.iy;rw[Cs.kO h]
theorem vK {v:Nat} (h:v<n):(Cs.uf n es (v:Int)).length=dg es v:=by rw[Cs.kO h];rfl
theorem EO {h k:Nat} (hu:Cs.to es h<n) (e:Cs.out es (Cs.to es h) (2*es.length)=[Cs.twin h,k]):Cs.oB n es (Cs.to es h:Int)=(Cs.twin h:Int):=by
 unfold Cs.oB;rw[wU hu,e];rfl
theorem EP {h k:Nat} (hu:Cs.to es h<n) (e:Cs.out es (Cs.to es h) (2*es.length)=[k,Cs.twin h]):Cs.oB n es (Cs.to es h:Int)=(k:Int):=by
 unfold Cs.oB;rw[wU hu,e];rfl
theorem Fo {h k:Nat} (hh:h<2*es.length) (hu:Cs.to es h<n) (e:Cs.out es (Cs.to es h) (2*es.length)=[Cs.twin h,k]):Cs.jU n es (Cs.twin h:Int)=(k:Int):=by
 have ht:=Cs.dV hh;have h0:=(Cs.jN (es:=es) (v:=Cs.to es h) (k:=2*es.length) (j:=0) (i:=Cs.twin h) (by rw[e];rfl)).2.2;unfold Cs.jU;rw[if_pos ⟨by omega,by omega⟩,abb,Cs.jl,wU hu,e,h0];rfl
end
end Ku
theorem OE (p n:Nat) (es:List (Int×Int)) (ga:Option Addr) (gn gc h:Nat) (w:World) (hA:bQ w (.pointer (some ⟨p,0,none⟩)) n es) (hv:Si.Val n es) (hh:h<2*es.length) (hk:Ku.jG es h=none):
 Calls prog 262 #[.agg #[.pointer (some ⟨p,0,none⟩),.slice ga gn gc],.int .i64 (h:Int)] w fun e w'=>e= .returned (.tuple #[.int .i64 0,.bool false])/\Below w.heap.size w w':=by
 obtain⟨W,hW⟩:∃W,W=w.alloc (.cells #[.pointer (some ⟨p,0,none⟩),.slice ga gn gc] 317):=⟨_,rfl⟩;have hB0:Below w.heap.size w W:=by rw[hW];exact(aaE _ _).alloc (aaD _) _
 have g1:W.heap[w.heap.size]? =some (.cells #[.pointer (some ⟨p,0,none⟩),.slice ga gn gc] 317 (0,0)):=by rw[hW];exact heap_alloc_new w _
 obtain⟨c0,-,-⟩:=af g1;have hA':=hA.later hB0;have htn:=(Cs.dG hv hh).2;have HT:Hid (Calls prog 238 #[.pointer (some ⟨p,0,none⟩),.int .i64 (h:Int)] W fun e w'=>e= .returned (.int .i64 (Cs.to es h:Int))/\w'=W):=by
  have:=Bp _ n es (h:Int) W hA';rw[Cs.toI_in hh] at this;exact this
 have HD:Hid (Calls prog 209 #[.pointer (some ⟨p,0,none⟩),.int .i64 (Cs.to es h:Int)] W fun e w'=>e= .returned (.int .i64 (Ku.dg es (Cs.to es h):Int))/\w'=W):=by
  have:=jT _ n es (Cs.to es h:Int) W hA';rw[Ku.vK htn] at this;exact this
 have HB:=ζ hB0;have HW:=ζ hW;have FT:=ζ c0;have hd:=(Ku.Ay hh).1 hk;obtain⟨dv,Pk⟩:∃dv,(Ku.dg es (Cs.to es h):Int)=dv:=⟨_,rfl⟩;rw[Pk] at HD;have t1:(dv != 2)=true:=by rw[<-Pk];simp;omega
 clear hA hA' hB0 g1 hd Pk hk htn;rw[hW] at c0;clear hW;go_enter func262,ntmps262;go_wp2_with (go_at_call 238;rw[<-HW.out];refine HT.out.mono ?_;rintro e w1 ⟨rfl,hw1⟩;obtain rfl:=hw1.symm;refine aaH ?_);refine ζ ?_;clear c0;have c0:=FT.out;go_wp2_with (go_at_call 209;refine HD.out.mono ?_;rintro e w1 ⟨rfl,hw2⟩;obtain rfl:=hw2.symm;refine aaH ?_);refine ζ ?_;go_wp2;go_ret2;exact⟨rfl,HB.out⟩
theorem Lz (p n:Nat) (es:List (Int×Int)) (ga:Option Addr) (gn gc h k:Nat) (w:World) (hA:bQ w (.pointer (some ⟨p,0,none⟩)) n es) (hv:Si.Val n es) (hh:h<2*es.length) (hk:Ku.jG es h=some k):
 Calls prog 262 #[.agg #[.pointer (some ⟨p,0,none⟩),.slice ga gn gc],.int .i64 (h:Int)] w fun e w'=>e= .returned (.tuple #[.int .i64 (k:Int),.bool true])/\Below w.heap.size w w':=by
 obtain⟨W,hW⟩:∃W,W=w.alloc (.cells #[.pointer (some ⟨p,0,none⟩),.slice ga gn gc] 317):=⟨_,rfl⟩;have hB0:Below w.heap.size w W:=by rw[hW];exact(aaE _ _).alloc (aaD _) _
 have g1:W.heap[w.heap.size]? =some (.cells #[.pointer (some ⟨p,0,none⟩),.slice ga gn gc] 317 (0,0)):=by rw[hW];exact heap_alloc_new w _
 obtain⟨c0,-,-⟩:=af g1;have hA':=hA.later hB0;have htn:=(Cs.dG hv hh).2;have HT:Hid (Calls prog 238 #[.pointer (some ⟨p,0,none⟩),.int .i64 (h:Int)] W fun e w'=>e= .returned (.int .i64 (Cs.to es h:Int))/\w'=W):=by
  have:=Bp _ n es (h:Int) W hA';rw[Cs.toI_in hh] at this;exact this
 have HD:Hid (Calls prog 209 #[.pointer (some ⟨p,0,none⟩),.int .i64 (Cs.to es h:Int)] W fun e w'=>e= .returned (.int .i64 (Ku.dg es (Cs.to es h):Int))/\w'=W):=by
  have:=jT _ n es (Cs.to es h:Int) W hA';rw[Ku.vK htn] at this;exact this
 have HB:=ζ hB0;have HW:=ζ hW;have FT:=ζ c0;have hd:Ku.dg es (Cs.to es h)=2:=aa9 fun hc=>by
  have:=(Ku.Ay hh).2 hc;rw[hk] at this;cases this
 rw[hd] at HD;obtain⟨fq,hne⟩:=Ku.fW hk;have hx:bits .xor .i64 (h:Int) 1=(Cs.twin h:Int):=Cs.kF h (by have:=hv.few;omega);have HF:=ζ (Hg _ n es (Cs.to es h:Int) W hA');have Xv:Hid (∀q,Calls prog 182 #[.pointer (some ⟨p,0,none⟩),.int .i64 (Cs.twin h:Int)] (W.drewN q) fun e w'=>e= .returned (.int .i64 (Cs.jU n es (Cs.twin h:Int)))/\∃k,w'=(W.drewN q).drewN k):=fun q=>H9 _ n es (Cs.twin h:Int) (W.drewN q) (hA'.later (Ku.SK _ q))
 have hd2:∀q,(W.drewN q).cell? ⟨w.heap.size,0,none⟩=some (.pointer (some ⟨p,0,none⟩)):=fun q=>((Ku.SK W q).cell (p:=⟨w.heap.size,0,none⟩) (block_lt_of_cell c0)).trans c0
 have ZI:=ζ hd2;have Q6:Hid (∀q,Below w.heap.size w (W.drewN q)):=fun q=>hB0.trans ((Ku.SK W q).mono hB0.size)
 rcases fq with he|he
 .rw[Ku.EO htn he] at HF
  rw[Ku.Fo hh htn he] at Xv;have t2:((Cs.twin h:Int)==(Cs.twin h:Int))=true:=by simp
  clear hA hA' hB0 g1 hd hk htn he hne hd2;rw[hW] at c0;clear hW;go_enter func262,ntmps262;go_wp2_with (go_at_call 238;rw[<-HW.out];refine HT.out.mono ?_;rintro e w1 ⟨rfl,hw1⟩;obtain rfl:=hw1.symm;refine aaH ?_);refine ζ ?_;clear c0;have c0:=FT.out;go_wp2_with (go_at_call 209;refine HD.out.mono ?_;rintro e w1 ⟨rfl,hw2⟩;obtain rfl:=hw2.symm;refine aaH ?_);refine ζ ?_;go_wp2_with (go_at_call 234;refine HF.out.mono ?_;rintro e w1 ⟨rfl,q,rfl⟩;refine aaH ?_);refine ζ ?_;have d2:=ZI.out q;go_wp2_with (go_at_call 182;refine(Xv.out q).mono ?_;rintro e w1 ⟨rfl,q',rfl⟩;refine aaH ?_);refine ζ ?_;go_wp2;go_ret2;exact⟨rfl,Q6.out _⟩
 .rw[Ku.EP htn he] at HF
  have t2:((k:Int)==(Cs.twin h:Int))=false:=by simp;omega
  clear hA hA' hB0 g1 hd hk htn he hne hd2;rw[hW] at c0;clear hW;go_enter func262,ntmps262;go_wp2_with (go_at_call 238;rw[<-HW.out];refine HT.out.mono ?_;rintro e w1 ⟨rfl,hw1⟩;obtain rfl:=hw1.symm;refine aaH ?_);refine ζ ?_;clear c0;have c0:=FT.out;go_wp2_with (go_at_call 209;refine HD.out.mono ?_;rintro e w1 ⟨rfl,hw2⟩;obtain rfl:=hw2.symm;refine aaH ?_);refine ζ ?_;go_wp2_with (go_at_call 234;refine HF.out.mono ?_;rintro e w1 ⟨rfl,q,rfl⟩;refine aaH ?_);refine ζ ?_;go_wp2;go_ret2;exact⟨rfl,Q6.out _⟩
namespace Ku
def SX (es:List (Int×Int)) (h:Nat) (w:World) (e:Ending) (w':World):Prop:=∃(k:Nat) (b:Bool),e= .returned (.tuple #[.int .i64 (k:Int),.bool b])/\((b=true/\jG es h=some k)\/(b=false/\jG es h=none/\k=0))/\Below w.heap.size w w'
end Ku
theorem CY (p n:Nat) (es:List (Int×Int)) (ga:Option Addr) (gn gc h:Nat) (w:World) (hA:bQ w (.pointer (some ⟨p,0,none⟩)) n es) (hv:Si.Val n es) (hh:h<2*es.length):
 Calls prog 262 #[.agg #[.pointer (some ⟨p,0,none⟩),.slice ga gn gc],.int .i64 (h:Int)] w (Ku.SX es h w):=by
 cases hk:Ku.jG es h with
 |none=>
  refine(OE p n es ga gn gc h w hA hv hh hk).mono ?_;rintro e w' ⟨rfl,hb⟩;exact⟨0,false,rfl,.inr ⟨rfl,hk,rfl⟩,hb⟩
 |some k=>
  refine(Lz p n es ga gn gc h k w hA hv hh hk).mono ?_;rintro e w' ⟨rfl,hb⟩;exact⟨k,true,rfl,.inl ⟨rfl,hk⟩,hb⟩
namespace Ku
section
variable {es:List (Int×Int)} {n:Int} {hv:Si.Val n es}
def nS (es:List (Int×Int)) {n:Int} (hv:Si.Val n es) (e b:Nat):Prop:=b<2*es.length/\(∃x∈all (gs es hv).toSys b,x/2=e)/\(gU (gs es hv).toSys (all (gs es hv).toSys b)\/(b=2*e/\cY (gs es hv).toSys (all (gs es hv).toSys b)))
theorem Fm {e j x:Nat} (he:e<es.length) (hx:(all (gs es hv).toSys (Cs.twin (2*e)))[j]? =some x) (hn:jG es x=none):nS es hv e (Cs.twin x):=by
 have hh:2*e<(gs es hv).toSys.M:=show 2*e<2*es.length by omega
 have zK:Cs.twin (2*e)<(gs es hv).toSys.M:=Cs.dV hh;have hj:=all_none zK hx hn;obtain⟨h1,h2,h3⟩:=K9 (S:=gs es hv) (h0:=2*e) (x:=x) hh (show(all (gs es hv).toSys (Cs.twin (2*e)))[(all (gs es hv).toSys (Cs.twin (2*e))).length-1]? =some x by rw[show(all (gs es hv).toSys (Cs.twin (2*e))).length-1=j by omega];exact hx) hn;exact⟨h1,⟨2*e,h3,by omega⟩,.inl h2⟩
theorem Cy {e j x:Nat} (he:e<es.length) (hx:(all (gs es hv).toSys (Cs.twin (2*e)))[j]? =some x) (hn:jG es x=some (Cs.twin (2*e))):nS es hv e (2*e):=by
 have hh:2*e<(gs es hv).toSys.M:=show 2*e<2*es.length by omega
 have zK:Cs.twin (2*e)<(gs es hv).toSys.M:=Cs.dV hh;have hj:=A8 zK hx hn;have h2:=H8 (S:=gs es hv) (h0:=2*e) (x:=x) hh (show(all (gs es hv).toSys (Cs.twin (2*e)))[(all (gs es hv).toSys (Cs.twin (2*e))).length-1]? =some x by rw[show(all (gs es hv).toSys (Cs.twin (2*e))).length-1=j by omega];exact hx) hn;exact⟨hh,⟨2*e,aaG (all_zero hh),by omega⟩,.inr ⟨rfl,h2⟩⟩
theorem iQ (e:Nat):Cs.twin (2*e)=2*e+1:=by unfold Cs.twin;rw[if_pos (by omega)]
theorem nU (e:Nat):Cs.twin (2*e+1)=2*e:=by unfold Cs.twin;rw[if_neg (by omega)];omega
end
def Ra (es:List (Int×Int)) {n:Int} (hv:Si.Val n es) (e0:Nat) (w:World) (e:Ending) (w':World):Prop:=∃b:Nat,e= .returned (.int .i64 (b:Int))/\nS es hv e0 b/\Below w.heap.size w w'
end Ku
theorem CZ (p n:Nat) (es:List (Int×Int)) (ga:Option Addr) (gn gc e0:Nat) (w:World) (hA:bQ w (.pointer (some ⟨p,0,none⟩)) n es) (hv:Si.Val (n:Int) es) (he:e0<es.length):
 Calls prog 212 #[.agg #[.pointer (some ⟨p,0,none⟩),.slice ga gn gc],.int .i64 (e0:Int)] w (Ku.Ra es hv e0 w):=by
 obtain⟨W,hW⟩:∃W,W=w.alloc (.cells #[.pointer (some ⟨p,0,none⟩),.slice ga gn gc] 317):=⟨_,rfl⟩;have hB0:Below w.heap.size w W:=by rw[hW];exact(aaE _ _).alloc (aaD _) _
 have g1:W.heap[w.heap.size]? =some (.cells #[.pointer (some ⟨p,0,none⟩),.slice ga gn gc] 317 (0,0)):=by rw[hW];exact heap_alloc_new w _
 obtain⟨c0,c1,-⟩:=af g1;have dA:=hv.few;obtain⟨bk,hbk⟩:∃bk:Nat,bk=2*e0+1:=⟨_,rfl⟩;have hbk2:Cs.twin (2*e0)=bk:=by rw[Ku.iQ,hbk]
 obtain⟨T,hT⟩:∃T,Ku.all (Ku.gs es hv).toSys bk=T:=⟨_,rfl⟩;have mI:bk<(Ku.gs es hv).toSys.M:=show bk<2*es.length by omega
 have EC:=(Ku.bL mI).2.2.1;have Ij:=ζ (Ku.all_zero mI);have tJ:Hid (∀j x k,T[j]? =some x->Ku.jG es x=some k->k≠bk->T[j+1]? =some k):=fun j x k hx e hk=>by rw[<-hT] at hx ⊢;exact Ku.Jv mI hx e hk
 have S9:Hid (∀j x,T[j]? =some x->Ku.jG es x=none->Ku.nS es hv e0 (Cs.twin x)):=fun j x hx e=>Ku.Fm he (by rw[hbk2,hT];exact hx) e
 have PR:Hid (∀j x,T[j]? =some x->Ku.jG es x=some bk->Ku.nS es hv e0 (2*e0)):=fun j x hx e=>Ku.Cy he (by rw[hbk2,hT];exact hx) (by rw[hbk2];exact e)
 have mK:Hid (∀j x,T[j]? =some x->x<2*es.length):=fun j x hx=>EC x (by rw[hT];exact aaG hx)
 rw[hT] at Ij;have PT:Hid (∀(h:Nat) (U:World),h<2*es.length->Below W.heap.size W U->Calls prog 262 #[.agg #[.pointer (some ⟨p,0,none⟩),.slice ga gn gc],.int .i64 (h:Int)] U (Ku.SX es h U)):=fun h U hh hU=>CY p n es ga gn gc h U ((hA.later hB0).later hU) hv hh
 have HX:Hid (∀h:Nat,h<2*es.length->bits .xor .i64 (h:Int) 1=(Cs.twin h:Int)):=fun h hh=>Cs.kF h (by omega)
 have X6:IntKind.i64.wrap (2*(e0:Int))=2*(e0:Int):=by rw[aaK];omega
 have hwb:IntKind.i64.wrap (2*(e0:Int)+1)=(bk:Int):=by rw[aaK];omega
 have hxb:bits .xor .i64 (bk:Int) 1=((2*e0:Nat):Int):=by rw[HX.out bk (by omega),hbk,Ku.nU]
 have aW:=ζ hB0;have HG:=ζ g1;have HW:=ζ hW;have hbl:bk<2*es.length:=mI;have Zm:=ζ (PT.out bk W hbl (aaE _ _));clear hA hB0 g1 hbk hbk2 hT mI EC;rw[hW] at c0 c1;clear hW;go_enter func212,ntmps212;go_wp2_with (go_at_call 262;rw[<-HW.out];refine Zm.out.mono ?_;refine aaH ?_);refine ζ ?_;rintro e w1 ⟨k0,b0,rfl,hc0,hb1⟩;have FT:=ζ hc0;have aN:=ζ hb1;clear c0 c1 hc0 hb1;go_wp2
 go_loopg [6,7,8] T.length (fun d s6 s7 s8 wr=>∃(j x k:Nat) (b:Bool),T[j]? =some x/\T.length-j<=d/\s6= .int .i64 (x:Int)/\s7= .int .i64 (k:Int)/\s8= .bool b/\((b=true/\Ku.jG es x=some k)\/(b=false/\Ku.jG es x=none/\k=0))/\Below W.heap.size W wr)
 case atStart=>exact⟨0,bk,k0,b0,Ij.out,by omega,rfl,rfl,rfl,FT.out,aN.out⟩
 case round=>
  obtain⟨j,x,k,b,hx,hd,rfl,rfl,rfl,hc,hb⟩:=hrel;obtain⟨U,rfl⟩:∃U,U=wr:=⟨wr,rfl⟩;have HXX:=ζ hx;have HB:=ζ hb;have hxl:=mK.out j x hx;rcases hc with ⟨rfl,hk⟩|⟨rfl,hk,rfl⟩
  .have HK:=ζ hk
   by_cases hkb:k=bk
   .have t1:((k:Int)==(bk:Int))=true:=by simp[hkb]
    have HF:=ζ (PR.out j x hx (by rw[hk,hkb]));obtain rfl:=hkb;clear hx hb hk;go_wp2;go_ret;exact⟨2*e0,rfl,HF.out,aW.out.trans (HB.out.mono aW.out.size)⟩
   .have t1:((k:Int)==(bk:Int))=false:=by simp;omega
    have HN:=ζ (tJ.out j x k hx hk hkb);have hkl:=mK.out _ _ HN.out;have iw:=ζ (PT.out k U hkl hb);obtain⟨c0,c1,-⟩:=af ((hb.block _ (lt_of_block HG.out)).trans HG.out);have hjl:=(aaF.1 HN.out).1;clear hx hb hk hkb;go_wp2_with (go_at_call 262;refine iw.out.mono ?_;refine aaH ?_);refine ζ ?_;rintro e w2 ⟨k2,b2,rfl,hc2,hb2⟩;have TF:=ζ hc2;have aC:=ζ (HB.out.trans (hb2.mono HB.out.size));clear c0 c1 hc2 hb2;go_wp2
    go_roundg (T.length-(j+1))
    case measure=>omega
    case rel=>exact⟨j+1,k,k2,b2,HN.out,aaD _,rfl,rfl,rfl,TF.out,aC.out⟩
  .have HF:=ζ (S9.out j x hx hk)
   have O6:=HX.out x hxl;clear hx hb hk;go_wp2;go_ret;exact⟨Cs.twin x,rfl,HF.out,aW.out.trans (HB.out.mono aW.out.size)⟩
end
end Go.Proofs.YtdbjpbjocmcpkaaGreatDoor
