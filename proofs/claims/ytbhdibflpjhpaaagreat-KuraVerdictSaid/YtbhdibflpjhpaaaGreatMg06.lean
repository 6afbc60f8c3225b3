import Derived.Test.YtbhdibflpjhpaaaGreatMg05
import Derived.Deep.LoopGhost
set_option maxHeartbeats 4000000
set_option maxRecDepth 100000
namespace Go.Proofs.YtbhdibflpjhpaaaGreat
section
open Go.Proofs.Tryz
open Go.RowKit
def bK (w:World) (v:Value) (n:Nat) (es:List (Int×Int)):Prop:=(v= .pointer none/\n=0/\es=[])\/∃B p,v= .pointer (some ⟨p,0,none⟩)/\Si.Val n es/\nk w B p n es
theorem bK.later {w w':World} {v:Value} {n:Nat} {es:List (Int×Int)} (h:bK w v n es) (hb:Below w.heap.size w w'):bK w' v n es:=by
 rcases h with h|⟨B,p,h1,h2,h3⟩
 .exact .inl h
 .exact .inr ⟨B,p,h1,h2,h3.later hb⟩
theorem bK.bounds {w:World} {v:Value} {n:Nat} {es:List (Int×Int)} (h:bK w v n es):n<=1048576/\es.length<=4194304:=by
 rcases h with ⟨_,rfl,rfl⟩|⟨B,p,_,h2,_⟩
 .simp
 .have:=h2.hi
  have:=h2.few;omega
theorem mE (v:Value) (n:Nat) (es:List (Int×Int)) (w:World) (h:bK w v n es):Calls prog 24 #[v] w fun e w'=>e= .returned (.int .i64 (n:Int))/\w'=w:=by
 rcases h with ⟨rfl,rfl,rfl⟩|⟨B,p,rfl,hv,gd,gs,gh,gp,gt,h⟩
 .go_enter func24,ntmps24
  go_wp2;go_ret;exact⟨rfl,rfl⟩
 .have c0:=h.blk.c0
  clear h;go_enter func24,ntmps24;go_wp2;go_ret;exact⟨rfl,rfl⟩
theorem yS (v:Value) (n:Nat) (es:List (Int×Int)) (w:World) (h:bK w v n es):Calls prog 26 #[v] w fun e w'=>e= .returned (.int .i64 (es.length:Int))/\w'=w:=by
 have hb:=h.bounds;rcases h with ⟨rfl,rfl,rfl⟩|⟨B,p,rfl,hv,gd,gs,gh,gp,gt,h⟩
 .go_enter func26,ntmps26
  go_wp2;go_ret;exact⟨rfl,rfl⟩
 .have c4:=h.blk.c4
  have Ze:(2*(es.length:Int)).tdiv 2=es.length:=by rw[acG (by omega)];omega
  clear h;go_enter func26,ntmps26;go_wp2;go_ret;exact⟨rfl,rfl⟩
theorem tV (v:Value) (n:Nat) (es:List (Int×Int)) (x:Int) (w:World) (h:bK w v n es):Calls prog 40 #[v,.int .i64 x] w fun e w'=>e= .returned (.bool (decide (0<=x/\x<(n:Int))))/\w'=w:=by
 have HN:=ζ (mE v n es w h);clear h;by_cases h0:0<=x
 .have hd:decide (0<=x/\x<(n:Int))=decide (x<(n:Int)):=by simp[h0]
  rw[hd];go_enter func40,ntmps40;go_wp2_with (go_at_call 24;refine HN.out.mono ?_;rintro e w1 ⟨rfl,rfl⟩);go_ret;exact⟨rfl,rfl⟩
 .have hd:decide (0<=x/\x<(n:Int))=false:=by simp[h0]
  rw[hd];go_enter func40,ntmps40;go_wp2_with (go_at_call 24;refine HN.out.mono ?_;rintro e w1 ⟨rfl,rfl⟩);go_ret;exact⟨rfl,rfl⟩
theorem rX (v:Value) (n:Nat) (es:List (Int×Int)) (x:Int) (w:World) (h:bK w v n es):Calls prog 57 #[v,.int .i64 x] w fun e w'=>e= .returned (.bool (decide (0<=x/\x<2*(es.length:Int))))/\w'=w:=by
 have HN:=ζ (yS v n es w h);have hb:=h.bounds;clear h;by_cases h0:0<=x
 .have hd:decide (0<=x/\x<2*(es.length:Int))=decide (x<2*(es.length:Int)):=by simp[h0]
  rw[hd];go_enter func57,ntmps57;go_wp2_with (go_at_call 26;refine HN.out.mono ?_;rintro e w1 ⟨rfl,rfl⟩);go_ret;exact⟨rfl,rfl⟩
 .have hd:decide (0<=x/\x<2*(es.length:Int))=false:=by simp[h0]
  rw[hd];go_enter func57,ntmps57;go_wp2_with (go_at_call 26;refine HN.out.mono ?_;rintro e w1 ⟨rfl,rfl⟩);go_ret;exact⟨rfl,rfl⟩
theorem jO (v:Value) (n:Nat) (es:List (Int×Int)) (x:Int) (w:World) (h:bK w v n es):Calls prog 44 #[v,.int .i64 x] w fun e w'=>e= .returned (.int .i64 (Cs.toI es x))/\w'=w:=by
 have HV:=ζ (rX v n es x w h);by_cases hx:0<=x/\x<2*(es.length:Int)
 .rw[decide_eq_true hx] at HV
  rcases h with ⟨rfl,rfl,rfl⟩|⟨B,p,rfl,hv,gd,gs,gh,gp,gt,h⟩
  .simp at hx;omega
  .obtain⟨u,rfl⟩:∃u:Nat,x=(u:Int):=⟨x.toNat,by omega⟩
   obtain⟨x0,x1⟩:=hx;have c0:=h.blk.c4;have d0:=h.goes u (by omega);rw[Cs.toI_in (by omega)];clear h hv;go_enter func44,ntmps44;go_wp2_with (go_at_call 57;refine HV.out.mono ?_;rintro e w1 ⟨rfl,rfl⟩);go_ret;exact⟨rfl,rfl⟩
 .rw[decide_eq_false hx] at HV
  rw[Cs.toI_no hx];clear h hx;go_enter func44,ntmps44;go_wp2_with (go_at_call 57;refine HV.out.mono ?_;rintro e w1 ⟨rfl,rfl⟩);go_ret;exact⟨rfl,rfl⟩
theorem j7 (v:Value) (n:Nat) (es:List (Int×Int)) (x:Int) (w:World) (h:bK w v n es):Calls prog 42 #[v,.int .i64 x] w fun e w'=>e= .returned (.int .i64 (Cs.I3 es x))/\w'=w:=by
 have HV:=ζ (rX v n es x w h);by_cases hx:0<=x/\x<2*(es.length:Int)
 .rw[decide_eq_true hx] at HV
  rcases h with ⟨rfl,rfl,rfl⟩|⟨B,p,rfl,hv,gd,gs,gh,gp,gt,h⟩
  .simp at hx;omega
  .obtain⟨u,rfl⟩:∃u:Nat,x=(u:Int):=⟨x.toNat,by omega⟩
   obtain⟨x0,x1⟩:=hx;have ht:=Cs.iW (i:=u) (m:=es.length) (by omega);have c0:=h.blk.c4;have dH:=hv.few;have hxt:=Cs.uI u (by omega);have ht0:(0:Int)<=(Cs.twin u:Int):=by omega
   have IC:(Cs.twin u:Int)<2*(es.length:Int):=by omega
   have d0:=h.goes (Cs.twin u) ht;rw[Cs.jQ (by omega)];rw[Cs.xS] at d0;clear h hv;go_enter func42,ntmps42;go_wp2_with (go_at_call 57;refine HV.out.mono ?_;rintro e w1 ⟨rfl,rfl⟩);go_ret;exact⟨rfl,rfl⟩
 .rw[decide_eq_false hx] at HV
  rw[Cs.Ci hx];clear h hx;go_enter func42,ntmps42;go_wp2_with (go_at_call 57;refine HV.out.mono ?_;rintro e w1 ⟨rfl,rfl⟩);go_ret;exact⟨rfl,rfl⟩
def Td (n:Nat) (es:List (Int×Int)) (x:Int) (w0 w:World) (e:Ending) (w':World):Prop:=
 ∃ao cap,e= .returned (.slice ao (Cs.gO n es x).length cap)/\bV w0 ao (Cs.gO n es x)/\∃k,w'=w.drewN k
theorem yt (v:Value) (n:Nat) (es:List (Int×Int)) (x:Int) (w0 w:World) (h0:bK w0 v n es) (hb:Below w0.heap.size w0 w):Calls prog 80 #[v,.int .i64 x] w (Td n es x w0 w):=by
 have HV:=ζ (tV v n es x w (h0.later hb));by_cases hx:0<=x/\x<(n:Int)
 .rw[decide_eq_true hx] at HV
  rcases h0 with ⟨rfl,rfl,rfl⟩|⟨B,p,rfl,hv,gd,gs,gh,gp,gt,h0⟩
  .omega
  .obtain⟨u,rfl⟩:∃u:Nat,x=(u:Int):=⟨x.toNat,by omega⟩
   obtain⟨x0,x1⟩:=hx;have tO:u<n:=by omega
   have h:=h0.same hb.size fun k _ h2=>hb.block k h2
   have c0:=h.blk.c0;have c1:=h.blk.c1;have c2:=h.blk.c2;have d0:=h.gY u tO;have d1:=h.start u tO;have hlt:∀i,i<2*es.length->Cs.fr es i<n:=fun i hi=>(Cs.bI hv hi).1
   have hle:=Cs.CS hlt tO;have dH:=hv.few;have rT:=h0.half;have hcell:∀(j:Nat) (z:Int),(Cs.gO n es u)[j]? =some z->w0.cell? ⟨gh,Cs.st es (2*es.length) u+j,none⟩=some (.int .i64 z):=fun j z hj=>by
    unfold Cs.gO at hj;rw[abU,Cs.kL tO] at hj;obtain⟨i,hi,rfl⟩:=acX.1 hj;obtain⟨h1,h2,h3⟩:=Cs.kK hi;have:=rT i h1;unfold Cs.pos at this;rw[h2,h3] at this;exact this
   have eO:(Cs.gO n es u).length=(Cs.out es u (2*es.length)).length:=by rw[Cs.FX,Cs.kL tO]
   have HC:=ζ hcell;have B3:=ζ eO;obtain⟨s,hs⟩:∃s,Cs.st es (2*es.length) u=s:=⟨_,rfl⟩;obtain⟨d,hd⟩:∃d,(Cs.out es u (2*es.length)).length=d:=⟨_,rfl⟩;rw[hs] at d1 hle HC;rw[hd] at d0 hle B3;have s0:(0:Int)<=(s:Int):=by omega
   have s1:(s:Int)<=2*(es.length:Int):=by omega
   have s2:(0:Int)<=(d:Int):=by omega
   have s3:(d:Int)<=2*(es.length:Int)-(s:Int):=by omega
   clear h h0 hb hv hlt rT hcell eO hs hd;go_enter func80,ntmps80;go_wp2_with (go_at_call 40;refine HV.out.mono ?_;rintro e w1 ⟨rfl,rfl⟩);go_quiet (fail);obtain⟨A,hA⟩:∃A:Option Addr,(if 2*es.length=s then some ⟨gh,0,none⟩ else some ⟨gh,s,none⟩)=A:=⟨_,rfl⟩;rw[hA];have HA:=ζ hA;clear hA;go_wp2;go_ret;refine⟨A,_,by rw[B3.out];rfl,fun j z hj=> ?_,nq,rfl⟩;have hjl:=(aaf.1 hj).1;rw[B3.out] at hjl;have:=HA.out;rw[if_neg (by omega)] at this;exact⟨gh,s,this.symm,HC.out j z hj⟩
 .rw[decide_eq_false hx] at HV
  have ho:Cs.gO n es x=[]:=by unfold Cs.gO;rw[Cs.Ke hx];rfl
  have HO:=ζ ho;clear h0 hb hx ho;go_enter func80,ntmps80;go_wp2_with (go_at_call 40;refine HV.out.mono ?_;rintro e w1 ⟨rfl,rfl⟩);go_ret;refine⟨none,0,by rw[HO.out];rfl,by rw[HO.out];exact bV.nil _ _,0,rfl⟩
end
section
open Go.Proofs.Tryz
open Go.RowKit
def Cs.fM (n:Nat) (es:List (Int×Int)) (x:Int):Int:=(Cs.gO n es x).getD 0 (-1)
theorem Eo (v:Value) (n:Nat) (es:List (Int×Int)) (x:Int) (w:World) (h:bK w v n es):Calls prog 58 #[v,.int .i64 x] w fun e w'=>e= .returned (.int .i64 (Cs.fM n es x))/\∃k,w'=w.drewN k:=by
 have HL:=ζ (yt v n es x w w h (aae _ _));clear h;unfold Cs.fM;cases hL:Cs.gO n es x with
 |nil=>
  have nj:Hid (Calls prog 80 #[v,.int .i64 x] w fun e w'=>∃ao cap,e= .returned (.slice ao 0 cap)/\∃k,w'=w.drewN k):=HL.out.mono (by
   rintro e w' ⟨ao,cap,h1,_,h3⟩;rw[hL] at h1;exact⟨ao,cap,h1,h3⟩)
  clear HL hL;go_enter func58,ntmps58;go_wp2_with (go_at_call 80;refine nj.out.mono ?_;rintro e w1 ⟨ao,cap,rfl,k,rfl⟩);go_ret;exact⟨rfl,k,rfl⟩
 |cons z L=>
  have nj:Hid (Calls prog 80 #[v,.int .i64 x] w fun e w'=>∃b o cap k,e= .returned (.slice (some ⟨b,o,none⟩) (L.length+1) cap)/\w.cell? ⟨b,o,none⟩=some (.int .i64 z)/\w'=w.drewN k):=HL.out.mono (by
   rintro e w' ⟨ao,cap,h1,h2,k,h3⟩;rw[hL] at h1 h2;obtain⟨b,o,rfl,h4⟩:=h2 0 z rfl;exact⟨b,o,cap,k,h1,h4,h3⟩)
  have hne:((L.length:Int)+1==0)=false:=by simp;omega
  clear HL hL;go_enter func58,ntmps58;go_wp2_with (go_at_call 80;refine nj.out.mono ?_;rintro e w1 ⟨b,o,cap,k,rfl,hc,rfl⟩);go_ret;exact⟨rfl,k,rfl⟩
def Cs.mD (n:Nat) (es:List (Int×Int)) (x:Int):Int:=
 if 0<=x/\x<2*(es.length:Int) then (Cs.gO n es (Cs.fr es x.toNat)).getD ((Cs.out es (Cs.fr es x.toNat) x.toNat).length+1) (-1) else -1
theorem Cs.O3 {n:Nat} {es:List (Int×Int)} {x:Int} (h:¬(0<=x/\x<2*(es.length:Int))):Cs.mD n es x= -1:=by unfold Cs.mD;rw[if_neg h]
theorem EI (v:Value) (n:Nat) (es:List (Int×Int)) (x:Int) (w:World) (h:bK w v n es):Calls prog 59 #[v,.int .i64 x] w fun e w'=>e= .returned (.int .i64 (Cs.mD n es x))/\∃k,w'=w.drewN k:=by
 have HV:=ζ (rX v n es x w h);have HF:=ζ (j7 v n es x w h);by_cases hx:0<=x/\x<2*(es.length:Int)
 .rw[decide_eq_true hx] at HV
  rcases h with ⟨rfl,rfl,rfl⟩|⟨B,p,rfl,hv,gd,gs,gh,gp,gt,h⟩
  .simp at hx;omega
  .obtain⟨i,rfl⟩:∃u:Nat,x=(u:Int):=⟨x.toNat,by omega⟩
   have hi:i<2*es.length:=by omega
   have hlt:∀i,i<2*es.length->Cs.fr es i<n:=fun i hi=>(Cs.bI hv hi).1
   have tO:=hlt i hi;rw[Cs.jQ hi] at HF;have ea:Cs.mD n es i=(Cs.gO n es (Cs.fr es i)).getD ((Cs.out es (Cs.fr es i) i).length+1) (-1):=by
    unfold Cs.mD;rw[if_pos hx,ach]
   rw[ea];have hle:=Cs.CS hlt tO;have hol:=Cs.uY (es:=es) (k:=2*es.length) hi rfl;have dH:=hv.few;have c0:=h.blk.c0;have c1:=h.blk.c1;have c2:=h.blk.c2;have c3:=h.blk.c3;have d0:=h.gY _ tO;have d1:=h.start _ tO;have d3:=h.place i hi;have rT:=h.half;have hpos:Cs.pos es (2*es.length) i=Cs.st es (2*es.length) (Cs.fr es i)+(Cs.out es (Cs.fr es i) i).length:=rfl;rw[hpos] at d3;obtain⟨j,hj⟩:∃j,(Cs.out es (Cs.fr es i) i).length=j:=⟨_,rfl⟩;rw[hj] at d3 hol ⊢;have jd:∀(q:Nat),(Cs.out es (Cs.fr es i) (2*es.length))[j+1]? =some q->w.cell? ⟨gh,Cs.st es (2*es.length) (Cs.fr es i)+(j+1),none⟩=some (.int .i64 (q:Int)):=fun q hq=>by
    obtain⟨h1,h2,h3⟩:=Cs.kK hq;have:=rT q h1;unfold Cs.pos at this;rw[h2,h3] at this;exact this
   unfold Cs.gO;rw[aag,abU,Cs.kL tO];obtain⟨f,hf⟩:∃f,Cs.fr es i=f:=⟨_,rfl⟩;rw[hf] at HF hle hol d0 d1 d3 jd tO ⊢;obtain⟨O,hO⟩:∃O,Cs.out es f (2*es.length)=O:=⟨_,rfl⟩;rw[hO] at hle hol d0 jd ⊢;obtain⟨s,hs⟩:∃s,Cs.st es (2*es.length) f=s:=⟨_,rfl⟩;rw[hs] at hle d1 d3 jd;have z0:(0:Int)<=(i:Int):=by omega
   have z1:(i:Int)<2*(es.length:Int):=by omega
   have z2:(0:Int)<=(f:Int):=by omega
   have z3:(f:Int)<(n:Int):=by omega
   clear h hv hlt rT hf hO hs hj ea hpos hx;by_cases cq:j+1=O.length
   .have hge:O[j+1]? =none:=abv (by omega)
    rw[hge];have he:((s:Int)+(j:Int)+1==(s:Int)+(O.length:Int))=true:=by simp;omega
    clear jd hge;go_enter func59,ntmps59;go_wp2_with (first|(go_at_call 57;refine HV.out.mono ?_;rintro e w1 ⟨rfl,rfl⟩)|(go_at_call 42;refine HF.out.mono ?_;rintro e w1 ⟨rfl,rfl⟩));go_quiet (fail);go_wp2;go_ret;exact⟨rfl,_,rfl⟩
   .obtain⟨q,hq⟩:∃q,O[j+1]? =some q:=⟨_,aac (by omega)⟩
    have hc:=jd q hq;rw[hq];have he:((s:Int)+(j:Int)+1==(s:Int)+(O.length:Int))=false:=by simp;omega
    have z4:(0:Int)<=(s:Int)+(j:Int)+1:=by omega
    have z5:(s:Int)+(j:Int)+1<2*(es.length:Int):=by omega
    have z6:((s:Int)+(j:Int)+1).toNat=s+(j+1):=by omega
    clear jd hq;go_enter func59,ntmps59;go_wp2_with (first|(go_at_call 57;refine HV.out.mono ?_;rintro e w1 ⟨rfl,rfl⟩)|(go_at_call 42;refine HF.out.mono ?_;rintro e w1 ⟨rfl,rfl⟩));go_quiet (fail);go_wp2;go_ret;exact⟨rfl,_,rfl⟩
 .rw[decide_eq_false hx] at HV
  rw[Cs.O3 hx];clear h hx HF;go_enter func59,ntmps59;go_wp2_with (go_at_call 57;refine HV.out.mono ?_;rintro e w1 ⟨rfl,rfl⟩);go_ret;exact⟨rfl,0,rfl⟩
end
section
namespace Ku
theorem mU.follow {S:Sys} {o t:List Nat} (ho:mU S o) (ht:Tr S t) {a:Nat} (h0:t[0]? =some a) (ha:a∈o):∀(i x:Nat),t[i]? =some x->x∈o
 |0,x,hx=>by rw[h0] at hx;cases hx;exact ha
 |i+1,x,hx=>by
  have hi:=(aaf.1 hx).1;obtain⟨y,hy⟩:∃y,t[i]? =some y:=⟨_,aac (by omega)⟩;have hyo:=ho.follow ht h0 ha i y hy;obtain⟨j,hj,ej⟩:=acq.1 hyo;have gj:o[j]? =some y:=by rw[<-ej];exact aac hj
  have hn:=ht i y x hy hx;by_cases hl:j+1<o.length
  .obtain⟨z,hz⟩:∃z,o[j+1]? =some z:=⟨_,aac hl⟩
   have:=ho.tr j y z gj hz;rw[hn] at this;rw[aal this];exact aah hz
  .have:=ho.bT y (by rw[show o.length-1=j by omega];exact gj)
   rw[hn] at this;cases this
theorem mU.nodup {S:Sys} {c:List Nat} (o:mU S c):c.Nodup:=o.tr.nodup fun i hi e=>by
 have hp:=eW o.ne;obtain⟨a,ha⟩:∃a,c[0]? =some a:=⟨_,aac hp⟩;rw[ha] at e;obtain⟨b,hb⟩:∃b,c[i-1]? =some b:=⟨_,aac (by have:=(aaf.1 e).1;omega)⟩;have h1:=o.tr (i-1) b a hb (by rw[show i-1+1=i by omega];exact e);have h2:=S.rev b a h1;rw[o.fst a ha] at h2;cases h2
section
variable {S:Gs}
theorem S0 {h0 x:Nat} (hh:h0<S.M) (hx:(all S.toSys (S.tw h0))[(all S.toSys (S.tw h0)).length-1]? =some x) (he:S.nx x=none):
 S.tw x<S.M/\mU S.toSys (all S.toSys (S.tw x))/\h0∈all S.toSys (S.tw x):=by
 have rU:=S.tl h0 hh;obtain⟨t',_,lt',_,_⟩:=dM (S:=S.toSys) rU;have hxM:=lt' x (aah hx);have htx:=S.tl x hxM;obtain⟨_,_,lt,hd,_⟩:=dM (S:=S.toSys) hh;have qM:h0∈all S.toSys h0:=adM hd;have hend:∀a,(all S.toSys h0)[(all S.toSys h0).length-1]? =some a->S.nx a=none:=by
  rcases mj (S:=S.toSys) hh with ⟨c,hc0⟩|⟨_,_,h⟩
  .exfalso
   refine t'.mH (fun a ha=> ?_) c.rv (aah (all_zero rU)) (fL.2 (by rw[S.tt];exact aah hc0));rw[hx] at ha;cases ha;exact he
  .exact h
 obtain⟨l,o,hl0,_⟩:=EE hh hend;have hr:S.tw h0∈rv S.toSys l:=fL.2 (by rw[S.tt];exact hl0);have YW:=o.rv.follow t' (all_zero rU) hr _ x hx;have hxl:=fL.1 YW;have hO:mU S.toSys (all S.toSys (S.tw x)):=by
  rcases mj (S:=S.toSys) htx with ⟨c,hc0⟩|⟨t,h0',h⟩
  .exfalso
   have hp:=eW c.ne;obtain⟨p,hp'⟩:∃p,(all S.toSys (S.tw x))[(all S.toSys (S.tw x)).length-1]? =some p:=⟨_,aac (by omega)⟩;have h1:=S.rev p _ (c.T6 p _ hp' hc0);rw[S.tt,he] at h1;cases h1
  .exact⟨t,fun e=>by rw[e] at h0';simp at h0',fun a ha=>by rw[h0'] at ha;cases ha;rw[S.tt];exact he,h⟩
 refine⟨htx,hO,?_⟩;rw[hO.unique o (aah (all_zero htx)) hxl];exact hl0
theorem OZ {h0 x:Nat} (hh:h0<S.M) (hx:(all S.toSys (S.tw h0))[(all S.toSys (S.tw h0)).length-1]? =some x) (he:S.nx x=some (S.tw h0)):fV S.toSys (all S.toSys h0):=by
 have rU:=S.tl h0 hh;have c':fV S.toSys (all S.toSys (S.tw h0)):=by
  rcases mj (S:=S.toSys) rU with ⟨c,_⟩|⟨_,_,h⟩
  .exact c
  .have:=h x hx
   rw[he] at this;cases this
 obtain⟨t,_,_,_,_⟩:=dM (S:=S.toSys) hh;rcases mj (S:=S.toSys) hh with ⟨c,_⟩|⟨t,h0',h⟩
 .exact c
 .exact(t.mH h c'.rv (aah h0') (fL.2 (aah (all_zero rU)))).elim
theorem SX {T l:List Nat} (t:Tr S.toSys T) (hn:T≠[]) (lt:∀x∈T,x<S.M) (c:Cn S l) (e:vs S l=written (vs S T)):l=T\/l=rv S.toSys T:=by
 unfold Ku.written at e
 split at e
 .refine .inr (Py c.tr t.rv c.lt (fun x hx=> ?_) (by rw[e,nP t hn]))
  have:=S.tl _ (lt _ (fL.1 hx));rw[S.tt] at this;exact this
 .exact .inl (Py c.tr t c.lt lt e)
end
section
variable {es:List (Int×Int)} {n:Int} {hv:Si.Val n es}
theorem aec {T:List Nat} {e:Nat}:By (rv (gs es hv).toSys T) e↔By T e:=by
 constructor
 .rintro⟨x,hx,h⟩
  exact⟨_,fL.1 hx,by show Cs.twin x/2=e;rw[lN];exact h⟩
 .rintro⟨x,hx,h⟩
  exact⟨Cs.twin x,fL.2 (by show Cs.twin (Cs.twin x)∈T;rw[jS];exact hx),by rw[lN];exact h⟩
theorem ad2 {e e':Nat} (hv:Si.Val n es) (h:e<=e') (he':e'<es.length) {x:Nat} (hx:x/2=e'):Cs.fr es (2*e)<=Cs.fr es x:=by
 obtain⟨p,hp⟩:∃p,es[e]? =some p:=⟨_,aac (by omega)⟩;obtain⟨q,hq⟩:∃q,es[e']? =some q:=⟨_,aac he'⟩;have ok1:=hv.each _ p hp;have ok2:=hv.each _ q hq;unfold Si.ok at ok1 ok2;have hle:p.1<=q.1:=by
  by_cases e1:e=e'
  .subst e1
   rw[hp] at hq;cases hq;exact adA _
  .have:=hv.mono e' e p q (by omega) hp hq
   unfold Si.lt at this;omega
 have f1:=(Cs.eP hp).1;have f2:=(Cs.eP hq).1;have f3:=(Cs.pN hq).1;rcases adw x with h2|h2
 .rw[show x=2*e' by omega]
  omega
 .rw[show x=2*e'+1 by omega]
  omega
theorem GN {e b:Nat} (hf:First es hv e) (hb:b<2*es.length) (hin:∃x∈all (gs es hv).toSys b,x/2=e) (hk:mU (gs es hv).toSys (all (gs es hv).toSys b)\/(b=2*e/\fV (gs es hv).toSys (all (gs es hv).toSys b))):
 vs (gs es hv) (ch es hv e)=written (vs (gs es hv) (all (gs es hv).toSys b))/\∀e',By (ch es hv e) e'↔By (all (gs es hv).toSys b) e':=by
 obtain⟨T,hT⟩:∃T,T=all (gs es hv).toSys b:=⟨_,rfl⟩;obtain⟨t,nd,lt,_,_⟩:=dM (S:=(gs es hv).toSys) hb;rw[<-hT] at hin hk t nd lt ⊢;have key:∀l,Cn (gs es hv) l->vs (gs es hv) l=written (vs (gs es hv) T)->T≠[]->vs (gs es hv) (ch es hv e)=written (vs (gs es hv) T)/\∀e',By (ch es hv e) e'↔By T e':=fun l c e1 hn=>by
  have hby:∀e',By l e'↔By T e':=fun e'=>by
   rcases SX t hn lt c e1 with rfl|rfl
   .exact Iff.rfl
   .exact aec
  obtain⟨x,hx,o8⟩:=(hby e).2 hin;rw[r9 c hx o8];exact⟨e1,hby⟩
 rcases hk with o|⟨hb2,c⟩
 .obtain⟨l,cn,e1,_⟩:=o.written lt
  exact key l cn e1 o.ne
 .have hm:∀x∈T,at_ (vs (gs es hv) T) 0<=(gs es hv).fr x:=fun x hx=>by
   have h0:T[0]? =some b:=by rw[hT];exact all_zero hb
   rw[nI h0,hb2];obtain⟨k,hk,hmin⟩:=I7 (fun i=>at_ (vs (gs es hv) T) i) (eW c.ne);obtain⟨l,cl,Ux,ml,sub,_⟩:=c.turn lt hk hmin;obtain⟨l',cn,_,hall⟩:=cl.written Ux ml;have hby:∀y∈T,By l' (y/2):=fun y hy=>by
    rcases hall y (sub y hy) with h|h
    .exact⟨y,h,rfl⟩
    .exact⟨_,h,lN y⟩
   obtain⟨y,hy,Fe⟩:=hin;obtain⟨z,hz,hze⟩:=hby y hy;have e1:=r9 (hv:=hv) (e:=e) cn hz (by rw[hze,Fe]);have:=hf (x/2) (by rw[e1];exact hby x hx);have hxl:x<2*es.length:=lt x hx;exact ad2 hv this (by omega) rfl
  obtain⟨l,cn,e1,_⟩:=c.written lt hm;exact key l cn e1 c.ne
theorem A8 {k e':Nat} (hk:k<es.length) (hf:First es hv k) (h:By (ch es hv k) e'):¬ ∃l∈ij es hv k,By l e':=by
 rintro⟨l,hl,hb⟩;obtain⟨e,h1,h2,rfl⟩:=og.1 hl;have a1:=Ez hk h;have a2:=Ez (by omega) hb;have:=hf e (by rw[<-a1,a2];exact(Ah (by omega)).2);omega
theorem Az {S:Sys} {T:List Nat} (t:Tr S T) (nd:T.Nodup) (htw:∀x y,x/2=y/2->x=y\/y=S.tw x) {i j x y:Nat} (hij:i<j) (hx:T[i]? =some x) (hy:T[j]? =some y):x/2≠y/2:=by
 intro e;rcases htw x y e with rfl|h
 .obtain⟨a1,a2⟩:=aaf.1 hx
  obtain⟨b1,b2⟩:=aaf.1 hy;have:=(afN nd).1 (a2.trans b2.symm);omega
 .exact t.Dl (aah hx) (aah hy) h
theorem Gz (x y:Nat) (e:x/2=y/2):x=y\/y=Cs.twin x:=by
 unfold Cs.twin
 split<;>omega
end
end Ku
end
section
open Go.Proofs.Tryz
open Go.RowKit
theorem pO (v:Value) (n:Nat) (es:List (Int×Int)) (x:Int) (w:World) (h:bK w v n es):Calls prog 25 #[v,.int .i64 x] w fun e w'=>e= .returned (.int .i64 ((Cs.wA n es x).length:Int))/\w'=w:=by
 have HV:=ζ (tV v n es x w h);by_cases hx:0<=x/\x<(n:Int)
 .rw[decide_eq_true hx] at HV
  rcases h with ⟨rfl,rfl,rfl⟩|⟨B,p,rfl,hv,gd,gs,gh,gp,gt,h⟩
  .omega
  .obtain⟨u,rfl⟩:∃u:Nat,x=(u:Int):=⟨x.toNat,by omega⟩
   obtain⟨x0,x1⟩:=hx;have c0:=h.blk.c0;have d0:=h.gY u (by omega);rw[Cs.kL (by omega)];clear h hv;go_enter func25,ntmps25;go_wp2_with (go_at_call 40;refine HV.out.mono ?_;rintro e w1 ⟨rfl,rfl⟩);go_ret;exact⟨rfl,rfl⟩
 .rw[decide_eq_false hx] at HV
  rw[Cs.Ke hx];clear h hx;go_enter func25,ntmps25;go_wp2_with (go_at_call 40;refine HV.out.mono ?_;rintro e w1 ⟨rfl,rfl⟩);go_ret;exact⟨rfl,rfl⟩
end
section
open Go.Proofs.Tryz
open Go.RowKit
theorem Ku.drN (W:World) (q:Nat):Below W.heap.size W (W.drewN q):=⟨rfl,rfl,rfl,aad _,fun _ _=>rfl⟩
namespace Ku
section
variable {n:Nat} {es:List (Int×Int)}
theorem Dj {v:Nat} (h:v<n):Cs.gO n es (v:Int)=(Cs.out es v (2*es.length)).map fun i:Nat=>(i:Int):=by
 unfold Cs.gO;rw[Cs.kL h]
theorem Cm {v:Nat} (h:v<n):(Cs.wA n es (v:Int)).length=dg es v:=by rw[Cs.kL h];rfl
theorem LF {h k:Nat} (hu:Cs.to es h<n) (e:Cs.out es (Cs.to es h) (2*es.length)=[Cs.twin h,k]):Cs.fM n es (Cs.to es h:Int)=(Cs.twin h:Int):=by
 unfold Cs.fM;rw[Dj hu,e];rfl
theorem LG {h k:Nat} (hu:Cs.to es h<n) (e:Cs.out es (Cs.to es h) (2*es.length)=[k,Cs.twin h]):Cs.fM n es (Cs.to es h:Int)=(k:Int):=by
 unfold Cs.fM;rw[Dj hu,e];rfl
theorem L6 {h k:Nat} (hh:h<2*es.length) (hu:Cs.to es h<n) (e:Cs.out es (Cs.to es h) (2*es.length)=[Cs.twin h,k]):Cs.mD n es (Cs.twin h:Int)=(k:Int):=by
 have ht:=Cs.iW hh;have h0:=(Cs.kK (es:=es) (v:=Cs.to es h) (k:=2*es.length) (j:=0) (i:=Cs.twin h) (by rw[e];rfl)).2.2;unfold Cs.mD;rw[if_pos ⟨by omega,by omega⟩,ach,Cs.iB,Dj hu,e,h0];rfl
end
end Ku
theorem Yo (p n:Nat) (es:List (Int×Int)) (ga:Option Addr) (gn gc h:Nat) (w:World) (hA:bK w (.pointer (some ⟨p,0,none⟩)) n es) (hv:Si.Val n es) (hh:h<2*es.length) (hk:Ku.kA es h=none):
 Calls prog 43 #[.agg #[.pointer (some ⟨p,0,none⟩),.slice ga gn gc],.int .i64 (h:Int)] w fun e w'=>e= .returned (.tuple #[.int .i64 0,.bool false])/\Below w.heap.size w w':=by
 obtain⟨W,hW⟩:∃W,W=w.alloc (.cells #[.pointer (some ⟨p,0,none⟩),.slice ga gn gc] 72):=⟨_,rfl⟩;have hB0:Below w.heap.size w W:=by rw[hW];exact(aae _ _).alloc (aad _) _
 have g1:W.heap[w.heap.size]? =some (.cells #[.pointer (some ⟨p,0,none⟩),.slice ga gn gc] 72 (0,0)):=by rw[hW];exact heap_alloc_new w _
 obtain⟨c0,-,-⟩:=aj g1;have hA':=hA.later hB0;have htn:=(Cs.bI hv hh).2;have HT:Hid (Calls prog 44 #[.pointer (some ⟨p,0,none⟩),.int .i64 (h:Int)] W fun e w'=>e= .returned (.int .i64 (Cs.to es h:Int))/\w'=W):=by
  have:=jO _ n es (h:Int) W hA';rw[Cs.toI_in hh] at this;exact this
 have HD:Hid (Calls prog 25 #[.pointer (some ⟨p,0,none⟩),.int .i64 (Cs.to es h:Int)] W fun e w'=>e= .returned (.int .i64 (Ku.dg es (Cs.to es h):Int))/\w'=W):=by
  have:=pO _ n es (Cs.to es h:Int) W hA';rw[Ku.Cm htn] at this;exact this
 have HB:=ζ hB0;have HW:=ζ hW;have Jv:=ζ c0;have hd:=(Ku.qA hh).1 hk;obtain⟨dv,Ze⟩:∃dv,(Ku.dg es (Cs.to es h):Int)=dv:=⟨_,rfl⟩;rw[Ze] at HD;have t1:(dv != 2)=true:=by rw[<-Ze];simp;omega
 clear hA hA' hB0 g1 hd Ze hk htn;rw[hW] at c0;clear hW;go_enter func43,ntmps43;go_wp2_with (go_at_call 44;rw[<-HW.out];refine HT.out.mono ?_;rintro e w1 ⟨rfl,hw1⟩;obtain rfl:=hw1.symm;refine abQ ?_);refine ζ ?_;clear c0;have c0:=Jv.out;go_wp2_with (go_at_call 25;refine HD.out.mono ?_;rintro e w1 ⟨rfl,hw2⟩;obtain rfl:=hw2.symm;refine abQ ?_);refine ζ ?_;go_wp2;go_ret2;exact⟨rfl,HB.out⟩
theorem TK (p n:Nat) (es:List (Int×Int)) (ga:Option Addr) (gn gc h k:Nat) (w:World) (hA:bK w (.pointer (some ⟨p,0,none⟩)) n es) (hv:Si.Val n es) (hh:h<2*es.length) (hk:Ku.kA es h=some k):
 Calls prog 43 #[.agg #[.pointer (some ⟨p,0,none⟩),.slice ga gn gc],.int .i64 (h:Int)] w fun e w'=>e= .returned (.tuple #[.int .i64 (k:Int),.bool true])/\Below w.heap.size w w':=by
 obtain⟨W,hW⟩:∃W,W=w.alloc (.cells #[.pointer (some ⟨p,0,none⟩),.slice ga gn gc] 72):=⟨_,rfl⟩;have hB0:Below w.heap.size w W:=by rw[hW];exact(aae _ _).alloc (aad _) _
 have g1:W.heap[w.heap.size]? =some (.cells #[.pointer (some ⟨p,0,none⟩),.slice ga gn gc] 72 (0,0)):=by rw[hW];exact heap_alloc_new w _
 obtain⟨c0,-,-⟩:=aj g1;have hA':=hA.later hB0;have htn:=(Cs.bI hv hh).2;have HT:Hid (Calls prog 44 #[.pointer (some ⟨p,0,none⟩),.int .i64 (h:Int)] W fun e w'=>e= .returned (.int .i64 (Cs.to es h:Int))/\w'=W):=by
  have:=jO _ n es (h:Int) W hA';rw[Cs.toI_in hh] at this;exact this
 have HD:Hid (Calls prog 25 #[.pointer (some ⟨p,0,none⟩),.int .i64 (Cs.to es h:Int)] W fun e w'=>e= .returned (.int .i64 (Ku.dg es (Cs.to es h):Int))/\w'=W):=by
  have:=pO _ n es (Cs.to es h:Int) W hA';rw[Ku.Cm htn] at this;exact this
 have HB:=ζ hB0;have HW:=ζ hW;have Jv:=ζ c0;have hd:Ku.dg es (Cs.to es h)=2:=abO fun hc=>by
  have:=(Ku.qA hh).2 hc;rw[hk] at this;cases this
 rw[hd] at HD;obtain⟨gD,hne⟩:=Ku.jZ hk;have hx:bits .xor .i64 (h:Int) 1=(Cs.twin h:Int):=Cs.uI h (by have:=hv.few;omega);have HF:=ζ (Eo _ n es (Cs.to es h:Int) W hA');have HAF:Hid (∀q,Calls prog 59 #[.pointer (some ⟨p,0,none⟩),.int .i64 (Cs.twin h:Int)] (W.drewN q) fun e w'=>e= .returned (.int .i64 (Cs.mD n es (Cs.twin h:Int)))/\∃k,w'=(W.drewN q).drewN k):=fun q=>EI _ n es (Cs.twin h:Int) (W.drewN q) (hA'.later (Ku.drN _ q))
 have hd2:∀q,(W.drewN q).cell? ⟨w.heap.size,0,none⟩=some (.pointer (some ⟨p,0,none⟩)):=fun q=>((Ku.drN W q).cell (p:=⟨w.heap.size,0,none⟩) (block_lt_of_cell c0)).trans c0
 have HD2:=ζ hd2;have abI:Hid (∀q,Below w.heap.size w (W.drewN q)):=fun q=>hB0.trans ((Ku.drN W q).mono hB0.size)
 rcases gD with he|he
 .rw[Ku.LF htn he] at HF
  rw[Ku.L6 hh htn he] at HAF;have t2:((Cs.twin h:Int)==(Cs.twin h:Int))=true:=by simp
  clear hA hA' hB0 g1 hd hk htn he hne hd2;rw[hW] at c0;clear hW;go_enter func43,ntmps43;go_wp2_with (go_at_call 44;rw[<-HW.out];refine HT.out.mono ?_;rintro e w1 ⟨rfl,hw1⟩;obtain rfl:=hw1.symm;refine abQ ?_);refine ζ ?_;clear c0;have c0:=Jv.out;go_wp2_with (go_at_call 25;refine HD.out.mono ?_;rintro e w1 ⟨rfl,hw2⟩;obtain rfl:=hw2.symm;refine abQ ?_);refine ζ ?_;go_wp2_with (go_at_call 58;refine HF.out.mono ?_;rintro e w1 ⟨rfl,q,rfl⟩;refine abQ ?_);refine ζ ?_;have d2:=HD2.out q;go_wp2_with (go_at_call 59;refine(HAF.out q).mono ?_;rintro e w1 ⟨rfl,q',rfl⟩;refine abQ ?_);refine ζ ?_;go_wp2;go_ret2;exact⟨rfl,abI.out _⟩
 .rw[Ku.LG htn he] at HF
  have t2:((k:Int)==(Cs.twin h:Int))=false:=by simp;omega
  clear hA hA' hB0 g1 hd hk htn he hne hd2;rw[hW] at c0;clear hW;go_enter func43,ntmps43;go_wp2_with (go_at_call 44;rw[<-HW.out];refine HT.out.mono ?_;rintro e w1 ⟨rfl,hw1⟩;obtain rfl:=hw1.symm;refine abQ ?_);refine ζ ?_;clear c0;have c0:=Jv.out;go_wp2_with (go_at_call 25;refine HD.out.mono ?_;rintro e w1 ⟨rfl,hw2⟩;obtain rfl:=hw2.symm;refine abQ ?_);refine ζ ?_;go_wp2_with (go_at_call 58;refine HF.out.mono ?_;rintro e w1 ⟨rfl,q,rfl⟩;refine abQ ?_);refine ζ ?_;go_wp2;go_ret2;exact⟨rfl,abI.out _⟩
namespace Ku
def OnP (es:List (Int×Int)) (h:Nat) (w:World) (e:Ending) (w':World):Prop:=∃(k:Nat) (b:Bool),e= .returned (.tuple #[.int .i64 (k:Int),.bool b])/\((b=true/\kA es h=some k)\/(b=false/\kA es h=none/\k=0))/\Below w.heap.size w w'
end Ku
theorem JD (p n:Nat) (es:List (Int×Int)) (ga:Option Addr) (gn gc h:Nat) (w:World) (hA:bK w (.pointer (some ⟨p,0,none⟩)) n es) (hv:Si.Val n es) (hh:h<2*es.length):
 Calls prog 43 #[.agg #[.pointer (some ⟨p,0,none⟩),.slice ga gn gc],.int .i64 (h:Int)] w (Ku.OnP es h w):=by
 cases hk:Ku.kA es h with
 |none=>
  refine(Yo p n es ga gn gc h w hA hv hh hk).mono ?_;rintro e w' ⟨rfl,hb⟩;exact⟨0,false,rfl,.inr ⟨rfl,hk,rfl⟩,hb⟩
 |some k=>
  refine(TK p n es ga gn gc h k w hA hv hh hk).mono ?_;rintro e w' ⟨rfl,hb⟩;exact⟨k,true,rfl,.inl ⟨rfl,hk⟩,hb⟩
namespace Ku
section
variable {es:List (Int×Int)} {n:Int} {hv:Si.Val n es}
def uH (es:List (Int×Int)) {n:Int} (hv:Si.Val n es) (e b:Nat):Prop:=b<2*es.length/\(∃x∈all (gs es hv).toSys b,x/2=e)/\(mU (gs es hv).toSys (all (gs es hv).toSys b)\/(b=2*e/\fV (gs es hv).toSys (all (gs es hv).toSys b)))
theorem LU {e j x:Nat} (he:e<es.length) (hx:(all (gs es hv).toSys (Cs.twin (2*e)))[j]? =some x) (hn:kA es x=none):uH es hv e (Cs.twin x):=by
 have hh:2*e<(gs es hv).toSys.M:=show 2*e<2*es.length by omega
 have rU:Cs.twin (2*e)<(gs es hv).toSys.M:=Cs.iW hh;have hj:=all_none rU hx hn;obtain⟨h1,h2,h3⟩:=S0 (S:=gs es hv) (h0:=2*e) (x:=x) hh (show(all (gs es hv).toSys (Cs.twin (2*e)))[(all (gs es hv).toSys (Cs.twin (2*e))).length-1]? =some x by rw[show(all (gs es hv).toSys (Cs.twin (2*e))).length-1=j by omega];exact hx) hn;exact⟨h1,⟨2*e,h3,by omega⟩,.inl h2⟩
theorem Jh {e j x:Nat} (he:e<es.length) (hx:(all (gs es hv).toSys (Cs.twin (2*e)))[j]? =some x) (hn:kA es x=some (Cs.twin (2*e))):uH es hv e (2*e):=by
 have hh:2*e<(gs es hv).toSys.M:=show 2*e<2*es.length by omega
 have rU:Cs.twin (2*e)<(gs es hv).toSys.M:=Cs.iW hh;have hj:=GP rU hx hn;have h2:=OZ (S:=gs es hv) (h0:=2*e) (x:=x) hh (show(all (gs es hv).toSys (Cs.twin (2*e)))[(all (gs es hv).toSys (Cs.twin (2*e))).length-1]? =some x by rw[show(all (gs es hv).toSys (Cs.twin (2*e))).length-1=j by omega];exact hx) hn;exact⟨hh,⟨2*e,aah (all_zero hh),by omega⟩,.inr ⟨rfl,h2⟩⟩
theorem MQ (e:Nat):Cs.twin (2*e)=2*e+1:=by unfold Cs.twin;rw[if_pos (by omega)]
theorem Re (e:Nat):Cs.twin (2*e+1)=2*e:=by unfold Cs.twin;rw[if_neg (by omega)];omega
end
def abM (es:List (Int×Int)) {n:Int} (hv:Si.Val n es) (e0:Nat) (w:World) (e:Ending) (w':World):Prop:=∃b:Nat,e= .returned (.int .i64 (b:Int))/\uH es hv e0 b/\Below w.heap.size w w'
end Ku
theorem JF (p n:Nat) (es:List (Int×Int)) (ga:Option Addr) (gn gc e0:Nat) (w:World) (hA:bK w (.pointer (some ⟨p,0,none⟩)) n es) (hv:Si.Val (n:Int) es) (he:e0<es.length):
 Calls prog 29 #[.agg #[.pointer (some ⟨p,0,none⟩),.slice ga gn gc],.int .i64 (e0:Int)] w (Ku.abM es hv e0 w):=by
 obtain⟨W,hW⟩:∃W,W=w.alloc (.cells #[.pointer (some ⟨p,0,none⟩),.slice ga gn gc] 72):=⟨_,rfl⟩;have hB0:Below w.heap.size w W:=by rw[hW];exact(aae _ _).alloc (aad _) _
 have g1:W.heap[w.heap.size]? =some (.cells #[.pointer (some ⟨p,0,none⟩),.slice ga gn gc] 72 (0,0)):=by rw[hW];exact heap_alloc_new w _
 obtain⟨c0,c1,-⟩:=aj g1;have dH:=hv.few;obtain⟨bk,hbk⟩:∃bk:Nat,bk=2*e0+1:=⟨_,rfl⟩;have QC:Cs.twin (2*e0)=bk:=by rw[Ku.MQ,hbk]
 obtain⟨T,hT⟩:∃T,Ku.all (Ku.gs es hv).toSys bk=T:=⟨_,rfl⟩;have BO:bk<(Ku.gs es hv).toSys.M:=show bk<2*es.length by omega
 have Ln:=(Ku.dM BO).2.2.1;have O7:=ζ (Ku.all_zero BO);have Ju:Hid (∀j x k,T[j]? =some x->Ku.kA es x=some k->k≠bk->T[j+1]? =some k):=fun j x k hx e hk=>by rw[<-hT] at hx ⊢;exact Ku.QW BO hx e hk
 have aeD:Hid (∀j x,T[j]? =some x->Ku.kA es x=none->Ku.uH es hv e0 (Cs.twin x)):=fun j x hx e=>Ku.LU he (by rw[QC,hT];exact hx) e
 have ZX:Hid (∀j x,T[j]? =some x->Ku.kA es x=some bk->Ku.uH es hv e0 (2*e0)):=fun j x hx e=>Ku.Jh he (by rw[QC,hT];exact hx) (by rw[QC];exact e)
 have tA:Hid (∀j x,T[j]? =some x->x<2*es.length):=fun j x hx=>Ln x (by rw[hT];exact aah hx)
 rw[hT] at O7;have Z4:Hid (∀(h:Nat) (U:World),h<2*es.length->Below W.heap.size W U->Calls prog 43 #[.agg #[.pointer (some ⟨p,0,none⟩),.slice ga gn gc],.int .i64 (h:Int)] U (Ku.OnP es h U)):=fun h U hh hU=>JD p n es ga gn gc h U ((hA.later hB0).later hU) hv hh
 have HX:Hid (∀h:Nat,h<2*es.length->bits .xor .i64 (h:Int) 1=(Cs.twin h:Int)):=fun h hh=>Cs.uI h (by omega)
 have hwa:IntKind.i64.wrap (2*(e0:Int))=2*(e0:Int):=by rw[acf];omega
 have NZ:IntKind.i64.wrap (2*(e0:Int)+1)=(bk:Int):=by rw[acf];omega
 have hxb:bits .xor .i64 (bk:Int) 1=((2*e0:Nat):Int):=by rw[HX.out bk (by omega),hbk,Ku.Re]
 have fo:=ζ hB0;have HG:=ζ g1;have HW:=ζ hW;have hbl:bk<2*es.length:=BO;have HO0:=ζ (Z4.out bk W hbl (aae _ _));clear hA hB0 g1 hbk QC hT BO Ln;rw[hW] at c0 c1;clear hW;go_enter func29,ntmps29;go_wp2_with (go_at_call 43;rw[<-HW.out];refine HO0.out.mono ?_;refine abQ ?_);refine ζ ?_;rintro e w1 ⟨k0,b0,rfl,hc0,hb1⟩;have Jv:=ζ hc0;have aY:=ζ hb1;clear c0 c1 hc0 hb1;go_wp2
 go_loopg [6,7,8] T.length (fun d s6 s7 s8 wr=>∃(j x k:Nat) (b:Bool),T[j]? =some x/\T.length-j<=d/\s6= .int .i64 (x:Int)/\s7= .int .i64 (k:Int)/\s8= .bool b/\((b=true/\Ku.kA es x=some k)\/(b=false/\Ku.kA es x=none/\k=0))/\Below W.heap.size W wr)
 case atStart=>exact⟨0,bk,k0,b0,O7.out,by omega,rfl,rfl,rfl,Jv.out,aY.out⟩
 case round=>
  obtain⟨j,x,k,b,hx,hd,rfl,rfl,rfl,hc,hb⟩:=hrel;obtain⟨U,rfl⟩:∃U,U=wr:=⟨wr,rfl⟩;have HXX:=ζ hx;have HB:=ζ hb;have hxl:=tA.out j x hx;rcases hc with ⟨rfl,hk⟩|⟨rfl,hk,rfl⟩
  .have HK:=ζ hk
   by_cases hkb:k=bk
   .have t1:((k:Int)==(bk:Int))=true:=by simp[hkb]
    have HF:=ζ (ZX.out j x hx (by rw[hk,hkb]));obtain rfl:=hkb;clear hx hb hk;go_wp2;go_ret;exact⟨2*e0,rfl,HF.out,fo.out.trans (HB.out.mono fo.out.size)⟩
   .have t1:((k:Int)==(bk:Int))=false:=by simp;omega
    have HN:=ζ (Ju.out j x k hx hk hkb);have hkl:=tA.out _ _ HN.out;have HOK:=ζ (Z4.out k U hkl hb);obtain⟨c0,c1,-⟩:=aj ((hb.block _ (lt_of_block HG.out)).trans HG.out);have hjl:=(aaf.1 HN.out).1;clear hx hb hk hkb;go_wp2_with (go_at_call 43;refine HOK.out.mono ?_;refine abQ ?_);refine ζ ?_;rintro e w2 ⟨k2,b2,rfl,hc2,hb2⟩;have FB:=ζ hc2;have cj:=ζ (HB.out.trans (hb2.mono HB.out.size));clear c0 c1 hc2 hb2;go_wp2
    go_roundg (T.length-(j+1))
    case measure=>omega
    case rel=>exact⟨j+1,k,k2,b2,HN.out,aad _,rfl,rfl,rfl,FB.out,cj.out⟩
  .have HF:=ζ (aeD.out j x hx hk)
   have hxt:=HX.out x hxl;clear hx hb hk;go_wp2;go_ret;exact⟨Cs.twin x,rfl,HF.out,fo.out.trans (HB.out.mono fo.out.size)⟩
end
end Go.Proofs.YtbhdibflpjhpaaaGreat
