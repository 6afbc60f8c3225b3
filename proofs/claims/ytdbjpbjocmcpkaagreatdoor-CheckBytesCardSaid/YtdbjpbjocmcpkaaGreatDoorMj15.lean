import Derived.Test.YtdbjpbjocmcpkaaGreatDoorMj14
import Derived.BigRegion
import Derived.Test.YtdbjpbjocmcpkaaGreatDoorMj03
import Derived.Sort.OwnSortedInts
set_option maxHeartbeats 8000000
set_option maxRecDepth 100000
namespace Go.Proofs.YtdbjpbjocmcpkaaGreatDoor
section
open Go.Proofs.Tryz
open Go.RowKit
theorem S7 (p gd gs gh gp gt gf cf n M:Nat) (H Pl T F:List Int) (h u v q:Nat) (w:World) (hA:bL w p gd gs gh gp gt n M) (iH:aF w gh H) (iP:aF w gp Pl) (iT:aF w gt T) (iF:aF w gf F)
 (lH:H.length=M) (lP:Pl.length=M) (lT:T.length=M) (lF:F.length=n) (hh:h<M) (hu:u<n) (hq:F[u]? =some (q:Int)) (hqM:q<M) (hM:M<=8388608)
 (d2:p≠gp) (d3:p≠gt) (d5:gh≠gp) (d6:gh≠gt) (d7:gp≠gt) (d8:gf≠gh) (d9:gf≠gp) (d10:gf≠gt):
 Calls prog 233 #[.pointer (some ⟨p,0,none⟩),.int .i64 h,.int .i64 u,.int .i64 v,.slice (some ⟨gf,0,none⟩) n cf] w fun e w'=>
  e= .returned (.tuple #[])/\aF w' gh (H.set q h)/\aF w' gp (Pl.set h q)/\aF w' gt (T.set h v)/\aF w' gf (F.set u ((q:Int)+1))/\av (fun b=>b=gh\/b=gp\/b=gt\/b=gf) w w':=by
 obtain⟨w1,hw1⟩:∃w1,w1=w.setCell ⟨gt,h,none⟩ (.int .i64 v):=⟨_,rfl⟩;obtain⟨w2,hw2⟩:∃w2,w2=w1.setCell ⟨gp,h,none⟩ (.int .i64 q):=⟨_,rfl⟩;obtain⟨w3,hw3⟩:∃w3,w3=w2.setCell ⟨gh,q,none⟩ (.int .i64 h):=⟨_,rfl⟩;obtain⟨x0,hx0⟩:∃x,T[h]? =some x:=⟨_,aaE (by omega)⟩;obtain⟨x1,hx1⟩:∃x,Pl[h]? =some x:=⟨_,aaE (by omega)⟩;obtain⟨x2,hx2⟩:∃x,H[q]? =some x:=⟨_,aaE (by omega)⟩;have A1:=hA.other (i:=h) d3 (.int .i64 v);have H1:=iH.other (i:=h) d6 (.int .i64 v);have P1:=iP.other (i:=h) d7 (.int .i64 v);have T1:=iT.set (i:=h) (by omega) (v:Int);have F1:=iF.other (i:=h) d10 (.int .i64 v);rw[<-hw1] at A1 H1 P1 T1 F1;have A2:=A1.other (i:=h) d2 (.int .i64 q);have H2:=H1.other (i:=h) d5 (.int .i64 q);have P2:=P1.set (i:=h) (by omega) (q:Int);have T2:=T1.other (i:=h) (acn d7) (.int .i64 q);have F2:=F1.other (i:=h) d9 (.int .i64 q);rw[<-hw2] at A2 H2 P2 T2 F2;have H3:=H2.set (i:=q) (by omega) (h:Int);have P3:=P2.other (i:=q) (acn d5) (.int .i64 h);have T3:=T2.other (i:=q) (acn d6) (.int .i64 h);have F3:=F2.other (i:=q) d8 (.int .i64 h);rw[<-hw3] at H3 P3 T3 F3;have H4:=H3.other (i:=u) (acn d8) (.int .i64 ((q:Int)+1));have P4:=P3.other (i:=u) (acn d9) (.int .i64 ((q:Int)+1));have T4:=T3.other (i:=u) (acn d10) (.int .i64 ((q:Int)+1));have F4:=F3.set (i:=u) (by omega) ((q:Int)+1);have hWr:av (fun b=>b=gh\/b=gp\/b=gt\/b=gf) w (w3.setCell ⟨gf,u,none⟩ (.int .i64 ((q:Int)+1))):=by
  rw[hw3,hw2,hw1];exact((((av.refl _ w).setCell (.inr (.inr (.inl rfl))) _).setCell (.inr (.inl rfl)) _).setCell (.inl rfl) _).setCell (.inr (.inr (.inr rfl))) _
 have j4:=ζ (And.intro H4 (And.intro P4 (And.intro T4 (And.intro F4 hWr))));have a4:=hA.c4;have a3:=A1.c3;have a2:=A2.c2;have t0:=iT.cell hx0;have tf:=iT.free;have p0:=P1.cell hx1;have pf:=P1.free;have f1:=F1.cell hq;have h0:=H2.cell hx2;have hf:=H2.free;have f2:=F2.cell hq;have f3:=F3.cell hq;have f3f:=F3.free;have JF:=ζ hw1;have FX:=ζ hw2;have z8:=ζ hw3;have s1:w1.heap.size=w.heap.size:=by rw[hw1];simp
 have i0:(0:Int)<=(h:Int):=by omega
 have i1:(h:Int)<(M:Int):=by omega
 have i2:(0:Int)<=(u:Int):=by omega
 have i3:(u:Int)<(n:Int):=by omega
 have i4:(0:Int)<=(q:Int):=by omega
 have i5:(q:Int)<(M:Int):=by omega
 clear hA iH iP iT iF A1 H1 P1 T1 F1 A2 H2 P2 T2 F2 H3 P3 T3 F3 H4 P4 T4 F4 hWr hw1 hw2 hw3 hx0 hx1 hx2 hq lH lP lT lF d2 d3 d5 d6 d7 d8 d9 d10;go_enter func233,ntmps233;go_wp2_with fail;rw[<-JF.out];go_big_region;rw[<-FX.out];go_wp2_with fail;go_big_region;rw[<-z8.out];go_wp2
 go_end0
 exact⟨rfl,j4.out.1,j4.out.2.1,j4.out.2.2.1,j4.out.2.2.2.1,j4.out.2.2.2.2.drew.drew⟩
theorem Im {w:World} {g n:Nat} {S:List Int} (h:aF w g S) (hl:S.length=n) (hn:n<=8388608) (hw:∀x∈S,-9223372036854775808<=x/\x<=9223372036854775807):iz .i64 8 w (some ⟨g,0,none⟩) n n S:=by
 refine .inr ⟨_,rfl,aaF _,by omega,hl,fun i hi=> ?_,fun x hx=>WalkArith.wf_i64 (by have:=hw x hx;omega)⟩;have e:((⟨g,0,none⟩:Addr).add i)=⟨g,i,none⟩:=by
  by_cases h0:i=0<;>simp[Addr.add,h0]
 rw[e];exact h.cell (by rw[aaL,aaE hi];rfl)
theorem Pm (g n:Nat) (S:List Int) (w:World) (h:aF w g S) (hl:S.length=n) (hn:n<=8388608) (hw:∀x∈S,-9223372036854775808<=x/\x<=9223372036854775807):
 Calls prog 92 #[.slice (some ⟨g,0,none⟩) n n] w fun e w'=>∃gf cf,e= .returned (.slice (some ⟨gf,0,none⟩) n cf)/\w.heap.size<=gf/\aF w' gf S/\Below w.heap.size w w':=by
 obtain⟨i0,hi,hz0,hz1,hz2⟩:=info_parts Tryz.cL;have hr:=Im h hl hn hw;have HR:=ζ hr;have hnil:=fun w=>Lib.run_eql_slice_nil (P:=prog) w 55 3 (some ⟨g,0,none⟩) n n 0 0 Tryz.underlying55
 clear hr h hw;go_enter func92,ntmps92;go_wp2_with (at_builtin;refine fP rfl _ _ 55 rfl 3 .i64 i0 8 Tryz.underlying55 hi hz0 hz1 hz2 (by decide) w (some ⟨g,0,none⟩) n n S rfl rfl HR.out ?_;refine aaI ?_);refine ζ ?_;intro gb c w1 hrow hgb hlt hc hb;have HX:=ζ hrow;have HB:=ζ hb;have HG:=ζ hgb;clear hrow hb hgb;go_wp2;go_ret;refine⟨gb,c,rfl,HG.out,?_,HB.out⟩;have:=HX.out;rw[abn (by simp;omega)] at this;exact xU this
def M4 (es:List (Int×Int)) (n M:Nat) (w:World) (e:Ending) (w':World):Prop:=
 ∃(gs:Nat) (S:List Int),e= .returned (.slice (some ⟨gs,0,none⟩) n n)/\w.heap.size<=gs/\gs<w'.heap.size/\aF w' gs S/\S.length=n/\(∀v,v<n->S[v]? =some (Cs.st es M v:Int))/\Below w.heap.size w w'
theorem Kg (es:List (Int×Int)) (gd n M:Nat) (D:List Int) (w:World) (hD:aF w gd D) (hl:D.length=n) (hn:n<=1048576) (hM:M<=8388608) (hd:∀v,v<n->D[v]? =some ((Cs.out es v M).length:Int)) (hf:∀i,i<M->Cs.fr es i<n):
 Calls prog 174 #[.slice (some ⟨gd,0,none⟩) n n] w (M4 es n M w):=by
 obtain⟨i0,hi,hz0,hz1,hz2⟩:=info_parts Tryz.cL;have HD:=ζ hD;have JR:=ζ hd;have HF:=ζ hf;have hlt:=hD.lt;clear hD hd hf;go_enter func174,ntmps174;go_wp2_with (at_make;refine wpList_make_full _ rfl _ _ 55 rfl w.heap.size 3 i0 (.int .i64 0) 1 Tryz.underlying55 hi hz0 hz1 _ _ _ _ n rfl rfl rfl rfl (by rw[hz2];omega) (by unfold maxLen;omega) (aaF _) ?_;refine aaI ?_);refine ζ ?_;intro w2 hrow hg2;rw[dx] at hrow;have hik:=(eR hrow).ins;have hb2:Below w.heap.size w w2:=(aaG _ _).grown hg2 (aaF _) (fun j hj=>by cases hj);have tL:=ζ hik;have aA:=ζ hb2;clear hrow hg2 hik hb2;go_wp2;go_loopw [4,11] (fun s c wr=>∃(k:Nat) (S:List Int),k<=n/\c= .int .i64 k/\s= .int .i64 (Cs.st es M k)/\S.length=n/\(∀v,v<k->S[v]? =some (Cs.st es M v:Int))/\aF wr w.heap.size S/\Below w.heap.size w wr) (fun _ c _=>n-(intOf c).toNat)
 case atStart=>exact⟨0,_,aaR _,rfl,rfl,by simp,fun v hv=>by omega,tL.out,aA.out⟩
 case round=>
  obtain⟨k,S,hk,rfl,rfl,hSl,hS,lK,hb⟩:=hrel;have hsz:=lK.lt;have HS:=ζ hS;have HIS:=ζ lK;have HB:=ζ hb;by_cases hkn:k<n
  .have hk0:(0:Int)<=(k:Int):=by omega
   have hk1:(k:Int)<(n:Int):=by omega
   obtain⟨x,hx⟩:∃x,S[k]? =some x:=⟨_,aaE (by omega)⟩;have c0:=lK.cell hx;have c1:=lK.free;have n1:=lK.set (i:=k) (by omega) (Cs.st es M k:Int);have nM:=ζ n1;have d1:(wr.setCell ⟨w.heap.size,k,none⟩ (.int .i64 (Cs.st es M k))).cell? ⟨gd,k,none⟩=some (.int .i64 ((Cs.out es k M).length:Int)):=by
    have:=(HD.out.later hb).cell (JR.out k hkn);rw[<-this];simp[World.cell?,heap_setCell_other wr ⟨w.heap.size,k,none⟩ gd _ (by simp;omega)]
   have HBN:=ζ (hb.setCell (p:=⟨w.heap.size,k,none⟩) (aaF _) (.int .i64 (Cs.st es M k:Int)));have hle:=Cs.CE HF.out hkn;have hst:Cs.st es M (k+1)=Cs.st es M k+(Cs.out es k M).length:=rfl;have HST:=ζ hst;have hny:∃y,y=(Cs.out es k M).length:=⟨_,rfl⟩;obtain⟨y,hy⟩:=hny;have hnz:∃z,z=Cs.st es M k:=⟨_,rfl⟩;obtain⟨z,hz⟩:=hnz;have HZ:=ζ hz.symm;rw[<-hy] at d1 hle hst HST;rw[<-hz] at d1 hle hst HST nM HBN n1 ⊢;clear hS lK hb n1 hx hst hy hz;go_wp2;go_roundw
   case rel=>
    refine⟨k+1,S.set k z,by omega,by go_num,by rw[HST.out];go_num,by simp[hSl],fun v hv=> ?_,nM.out,HBN.out⟩;rw[aa8];by_cases e:k=v
    .subst e
     rw[if_pos rfl,if_pos (by omega),HZ.out]
    .rw[if_neg e]
     exact HS.out v (by omega)
   case measure=>simp[intOf];omega
  .have hd:¬((k:Int)<(n:Int)):=by omega
   clear hS lK hb;go_wp2;go_ret;exact⟨w.heap.size,S,rfl,aaF _,hsz,HIS.out,hSl,fun v hv=>HS.out v (by omega),HB.out⟩
def Hz (es:List (Int×Int)) (n M gh gp gt:Nat) (w:World) (e:Ending) (w':World):Prop:=
 e= .returned (.tuple #[])/\(∃H Pl T F:List Int,Cs.oH es n M M H Pl T F/\aF w' gh H/\aF w' gp Pl/\aF w' gt T)/\av (fun b=>b=gh\/b=gp\/b=gt) w w'
theorem av.next {S S':Nat->Prop} {w0 w w':World} (h:av S w0 w) (k:av S' w w') (hS:∀b,b<w0.heap.size->S' b->S b):av S w0 w':=
 ⟨k.os.trans h.os,k.tape.trans h.tape,k.output.trans h.output,aa1 h.size k.size,fun i hi hn=>(k.block i (abd hi h.size) (fun hs=>hn (hS i hi hs))).trans (h.block i hi hn)⟩
def qW (es:List (Int×Int)) (p gd gs gh gp gt gf n M k:Nat) (w:World):Prop:=
 bL w p gd gs gh gp gt n M/\∃H Pl T F:List Int,Cs.oH es n M k H Pl T F/\aF w gh H/\aF w gp Pl/\aF w gt T/\aF w gf F
theorem qW.later {es:List (Int×Int)} {p gd gs gh gp gt gf n M k:Nat} {w w':World} (h:qW es p gd gs gh gp gt gf n M k w) (hb:Below w.heap.size w w'):qW es p gd gs gh gp gt gf n M k w':=by
 obtain⟨hA,H,Pl,T,F,hf,h1,h2,h3,h4⟩:=h;exact⟨hA.later hb,H,Pl,T,F,hf,h1.later hb,h2.later hb,h3.later hb,h4.later hb⟩
structure QY (p gh gp gt gf:Nat):Prop where
 d1:p≠gh
 d2:p≠gp
 d3:p≠gt
 d4:p≠gf
 d5:gh≠gp
 d6:gh≠gt
 d7:gp≠gt
 d8:gf≠gh
 d9:gf≠gp
 d10:gf≠gt
theorem K8 (es:List (Int×Int)) (p gd gs gh gp gt gf cf n M k:Nat) (w:World) (hL:qW es p gd gs gh gp gt gf n M k w) (hlt:∀i,i<M->Cs.fr es i<n) (hk:k<M) (hM:M<=8388608) (hd:QY p gh gp gt gf):
 Calls prog 233 #[.pointer (some ⟨p,0,none⟩),.int .i64 k,.int .i64 (Cs.fr es k:Int),.int .i64 (Cs.to es k:Int),.slice (some ⟨gf,0,none⟩) n cf] w fun e w'=>
  e= .returned (.tuple #[])/\qW es p gd gs gh gp gt gf n M (k+1) w'/\av (fun b=>b=gh\/b=gp\/b=gt\/b=gf) w w':=by
 obtain⟨hA,H,Pl,T,F,hf,h1,h2,h3,h4⟩:=hL;refine(S7 p gd gs gh gp gt gf cf n M H Pl T F k (Cs.fr es k) (Cs.to es k) (Cs.pos es M k) w hA h1 h2 h3 h4 hf.lH hf.lP hf.lT hf.lF hk (hlt k hk) (hf.at (hlt k hk)) (Cs.Qc hlt hk) hM hd.d2 hd.d3 hd.d5 hd.d6 hd.d7 hd.d8 hd.d9 hd.d10).mono ?_;rintro e w' ⟨he,k1,k2,k3,k4,hw⟩;refine⟨he,⟨hA.wrote hw (fun h=> ?_),_,_,_,_,hf.step hlt hk,k1,k2,k3,k4⟩,hw⟩;rcases h with h|h|h|h
 .exact hd.d1 h
 .exact hd.d2 h
 .exact hd.d3 h
 .exact hd.d4 h
theorem SZ (es:List (Int×Int)) (ao:Option Addr) (cap p gd gs gh gp gt n M:Nat) (S H Pl T:List Int) (w0 w:World) (hv:Si.Val n es) (hM:M=2*es.length) (he:ah w0 ao es) (hb:Below w0.heap.size w0 w)
 (hA:bL w p gd gs gh gp gt n M) (iS:aF w gs S) (iH:aF w gh H) (iP:aF w gp Pl) (iT:aF w gt T) (lS:S.length=n) (hS:∀v,v<n->S[v]? =some (Cs.st es M v:Int)) (lH:H.length=M) (lP:Pl.length=M) (lT:T.length=M)
 (b1:w0.heap.size<=gh) (b2:w0.heap.size<=gp) (b3:w0.heap.size<=gt) (d1:p≠gh) (d2:p≠gp) (d3:p≠gt) (d5:gh≠gp) (d6:gh≠gt) (d7:gp≠gt):
 Calls prog 175 #[.pointer (some ⟨p,0,none⟩),.slice ao es.length cap] w (Hz es n M gh gp gt w):=by
 have bV:=hv.few;have hhi:=hv.hi;have hlt:∀i,i<M->Cs.fr es i<n:=fun i hi=>(Cs.eU hv (by omega)).1
 have hwf:∀x∈S,-9223372036854775808<=x/\x<=9223372036854775807:=fun x hx=>by
  obtain⟨v,hv',rfl⟩:=List.getElem_of_mem hx;have h1:=hS v (by omega);rw[aaE hv'] at h1;have h2:=Cs.CE (v:=v) hlt (by omega);have h3:=aa9 h1;omega
 have hcl:=Pm gs n S w iS lS (by omega) hwf;have tN:=ζ hcl;have a1:=hA.c1;have s1:=iH.lt;have s2:=iP.lt;have s3:=iT.lt;have s4:=hA.lt;have HV:=ζ hv;have nN:=ζ hlt;have HE:=ζ he;have HB:=ζ hb;have hF0:Cs.oH es n M 0 H Pl T S:=⟨lH,lP,lT,lS,fun i hi=>by omega,fun i hi=>by omega,fun i hi=>by omega,fun v hv=>by rw[hS v hv];simp[Cs.out]⟩;have HPD:Hid (∀gf,w.heap.size<=gf->QY p gh gp gt gf):=fun gf hgf=>⟨d1,d2,d3,by omega,d5,d6,d7,by omega,by omega,by omega⟩
 have tK:Hid (∀gf w2,Below w.heap.size w w2->aF w2 gf S->qW es p gd gs gh gp gt gf n M 0 w2):=fun gf w2 hb hi=>⟨hA.later hb,H,Pl,T,S,hF0,iH.later hb,iP.later hb,iT.later hb,hi⟩
 clear hcl hv hlt he hb hA hF0 iS iH iP iT hS hwf lH lP lT lS d1 d2 d3 d5 d6 d7;go_enter func175,ntmps175;go_wp2_with (go_at_call 92;refine tN.out.mono ?_;rintro e w2 ⟨gf,cf,rfl,hgf,oN,hb2⟩;refine aaI ?_);refine ζ ?_;have aA:=ζ hb2;have uQ:=ζ (tK.out gf w2 hb2 oN);have HPG:=ζ (HPD.out gf hgf);have LP:=oN.lt;clear hb2 oN tN;go_wp2;go_loopw [14] (fun c wr=>∃k:Nat,k<=es.length/\c= .int .i64 k/\qW es p gd gs gh gp gt gf n M (2*k) wr/\av (fun b=>b=gh\/b=gp\/b=gt) w wr) (fun c _=>es.length-(intOf c).toNat)
 case atStart=>exact⟨0,aaR _,rfl,uQ.out,(av.refl _ _).later aA.out⟩
 case round=>
  obtain⟨k,hk,rfl,LM,hwr⟩:=hrel;have agK:=ζ LM;have lR:=ζ hwr;by_cases hlt:k<es.length
  .have aP:(k:Int)<(es.length:Int):=by omega
   have hk0:(0:Int)<=(k:Int):=by omega
   obtain⟨q,hq⟩:∃q,es[k]? =some q:=⟨_,aaE hlt⟩;have hb3:Below w0.heap.size w0 wr:=HB.out.trans (hwr.below HB.out.size (fun b hb=>by rcases hb with rfl|rfl|rfl<;>assumption));obtain⟨b,o,rfl,c0,c1⟩:=(HE.out.later hb3) k q hq;have hbl:b<wr.heap.size:=block_lt_of_cell c0;have hok:=HV.out.each k q hq;unfold Si.ok at hok;obtain⟨qu,qv⟩:=q;dsimp only at c0 c1 hok;obtain⟨u,rfl⟩:∃u:Nat,qu=(u:Int):=⟨qu.toNat,by omega⟩;obtain⟨v,rfl⟩:∃v:Nat,qv=(v:Int):=⟨qv.toNat,by omega⟩;obtain⟨e1,e2⟩:=Cs.dQ hq;obtain⟨e3,e4⟩:=Cs.iJ hq;dsimp only[Int.toNat_natCast] at e1 e2 e3 e4;have nR:=K8 es p gd gs gh gp gt gf cf n M (2*k) _ (LM.later ((aaG _ _).alloc (aaF _) (.cells #[.int .i64 u,.int .i64 v] 66))) nN.out (by omega) (by omega) HPG.out;rw[e1,e2,show((2*k:Nat):Int)=2*(k:Int) by omega] at nR;have hl2:=fun W hW=>K8 es p gd gs gh gp gt gf cf n M (2*k+1) W hW nN.out (by omega) (by omega) HPG.out
   rw[e3,e4,show((2*k+1:Nat):Int)=2*(k:Int)+1 by omega] at hl2;have lG:=ζ nR;have aai:=ζ hl2;have hnew:(wr.alloc (.cells #[.int .i64 u,.int .i64 v] 66)).heap[wr.heap.size]? =some (.cells #[.int .i64 u,.int .i64 v] 66 (0,0)):=heap_alloc_new wr _;have hsw:=hwr.size;have hpf:=HPG.out;have akm:gf<wr.heap.size:=by
    obtain⟨_,_,_,_,_,_,_,_,_,h4⟩:=LM;exact h4.lt
   have nU:Hid (¬(wr.heap.size=gh\/wr.heap.size=gp\/wr.heap.size=gt\/wr.heap.size=gf)):=by
    show ¬_;omega
   have rG:=ζ hnew;clear nR hl2 LM hwr hb3 hok hq hnew hpf;go_wp2_with (go_at_call 233;refine lG.out.mono ?_;rintro e w3 ⟨rfl,Vf,hw3⟩;refine aaI ?_);refine ζ ?_;have hn3:=(hw3.block wr.heap.size (by simp) nU.out).trans rG.out;obtain⟨x0,x1,-⟩:=af hn3;have aah:=ζ (aai.out w3 Vf);have z8:=ζ (((lR.out.alloc _).next hw3 (fun b hb h=>by rcases h with h|h|h|h;exact .inl h;exact .inr (.inl h);exact .inr (.inr h);omega)));have hs3:=hw3.size;have akn:=lt_of_block hn3;clear hw3 Vf hn3 lG aai rG;go_wp2_with (go_at_call 233;refine aah.out.mono ?_;rintro e w4 ⟨rfl,Ve,hw4⟩;refine aaI ?_);refine ζ ?_;have HW4:=ζ (z8.out.next hw4 (fun b hb h=>by rcases h with h|h|h|h;exact .inl h;exact .inr (.inl h);exact .inr (.inr h);omega));have WT:=ζ Ve;clear hw4 Ve aah;go_wp2;go_roundw
   case rel=>exact⟨k+1,by omega,by go_num,WT.out,HW4.out⟩
   case measure=>simp[intOf];omega
  .have hd:¬((k:Int)<(es.length:Int)):=by omega
   obtain rfl:k=es.length:=by omega
   clear LM hwr;go_wp2
   go_end0
   obtain⟨_,H1,P1,T1,F1,hf,i1,i2,i3,_⟩:=agK.out;rw[hM] at hf;exact⟨rfl,⟨H1,P1,T1,F1,hf,i1,i2,i3⟩,lR.out⟩
end
section
namespace Ku
theorem lD.follow {S:Sys} {o t:List Nat} (ho:lD S o) (ht:Tr S t) {a:Nat} (h0:t[0]? =some a) (ha:a∈o):∀(i x:Nat),t[i]? =some x->x∈o
 |0,x,hx=>by rw[h0] at hx;cases hx;exact ha
 |i+1,x,hx=>by
  have hi:=(aaH.1 hx).1;obtain⟨y,hy⟩:∃y,t[i]? =some y:=⟨_,aaE (by omega)⟩;have hyo:=ho.follow ht h0 ha i y hy;obtain⟨j,hj,ej⟩:=abf.1 hyo;have gj:o[j]? =some y:=by rw[<-ej];exact aaE hj
  have hn:=ht i y x hy hx;by_cases hl:j+1<o.length
  .obtain⟨z,hz⟩:∃z,o[j+1]? =some z:=⟨_,aaE hl⟩
   have:=ho.tr j y z gj hz;rw[hn] at this;rw[aa9 this];exact aaJ hz
  .have:=ho.iU y (by rw[show o.length-1=j by omega];exact gj)
   rw[hn] at this;cases this
theorem lD.nodup {S:Sys} {c:List Nat} (o:lD S c):c.Nodup:=o.tr.nodup fun i hi e=>by
 have hp:=dF o.ne;obtain⟨a,ha⟩:∃a,c[0]? =some a:=⟨_,aaE hp⟩;rw[ha] at e;obtain⟨b,hb⟩:∃b,c[i-1]? =some b:=⟨_,aaE (by have:=(aaH.1 e).1;omega)⟩;have h1:=o.tr (i-1) b a hb (by rw[show i-1+1=i by omega];exact e);have h2:=S.rev b a h1;rw[o.fst a ha] at h2;cases h2
section
variable {S:Gs}
theorem Td {h0 x:Nat} (hh:h0<S.M) (hx:(all S.toSys (S.tw h0))[(all S.toSys (S.tw h0)).length-1]? =some x) (he:S.nx x=none):
 S.tw x<S.M/\lD S.toSys (all S.toSys (S.tw x))/\h0∈all S.toSys (S.tw x):=by
 have rM:=S.tl h0 hh;obtain⟨t',_,lt',_,_⟩:=bQ (S:=S.toSys) rM;have hxM:=lt' x (aaJ hx);have htx:=S.tl x hxM;obtain⟨_,_,lt,hd,_⟩:=bQ (S:=S.toSys) hh;have Mf:h0∈all S.toSys h0:=ac7 hd;have hend:∀a,(all S.toSys h0)[(all S.toSys h0).length-1]? =some a->S.nx a=none:=by
  rcases jk (S:=S.toSys) hh with ⟨c,hc0⟩|⟨_,_,h⟩
  .exfalso
   refine t'.kW (fun a ha=> ?_) c.rv (aaJ (all_zero rM)) (fA.2 (by rw[S.tt];exact aaJ hc0));rw[hx] at ha;cases ha;exact he
  .exact h
 obtain⟨l,o,hl0,_⟩:=wI hh hend;have hr:S.tw h0∈rv S.toSys l:=fA.2 (by rw[S.tt];exact hl0);have hxr:=o.rv.follow t' (all_zero rM) hr _ x hx;have hxl:=fA.1 hxr;have hO:lD S.toSys (all S.toSys (S.tw x)):=by
  rcases jk (S:=S.toSys) htx with ⟨c,hc0⟩|⟨t,h0',h⟩
  .exfalso
   have hp:=dF c.ne;obtain⟨p,hp'⟩:∃p,(all S.toSys (S.tw x))[(all S.toSys (S.tw x)).length-1]? =some p:=⟨_,aaE (by omega)⟩;have h1:=S.rev p _ (c.Ry p _ hp' hc0);rw[S.tt,he] at h1;cases h1
  .exact⟨t,fun e=>by rw[e] at h0';simp at h0',fun a ha=>by rw[h0'] at ha;cases ha;rw[S.tt];exact he,h⟩
 refine⟨htx,hO,?_⟩;rw[hO.unique o (aaJ (all_zero htx)) hxl];exact hl0
theorem Pq {h0 x:Nat} (hh:h0<S.M) (hx:(all S.toSys (S.tw h0))[(all S.toSys (S.tw h0)).length-1]? =some x) (he:S.nx x=some (S.tw h0)):eD S.toSys (all S.toSys h0):=by
 have rM:=S.tl h0 hh;have c':eD S.toSys (all S.toSys (S.tw h0)):=by
  rcases jk (S:=S.toSys) rM with ⟨c,_⟩|⟨_,_,h⟩
  .exact c
  .have:=h x hx
   rw[he] at this;cases this
 obtain⟨t,_,_,_,_⟩:=bQ (S:=S.toSys) hh;rcases jk (S:=S.toSys) hh with ⟨c,_⟩|⟨t,h0',h⟩
 .exact c
 .exact(t.kW h c'.rv (aaJ h0') (fA.2 (aaJ (all_zero rM)))).elim
theorem S9 {T l:List Nat} (t:Tr S.toSys T) (hn:T≠[]) (lt:∀x∈T,x<S.M) (c:Cn S l) (e:vs S l=written (vs S T)):l=T\/l=rv S.toSys T:=by
 unfold Ku.written at e
 split at e
 .refine .inr (PZ c.tr t.rv c.lt (fun x hx=> ?_) (by rw[e,oI t hn]))
  have:=S.tl _ (lt _ (fA.1 hx));rw[S.tt] at this;exact this
 .exact .inl (PZ c.tr t c.lt lt e)
end
section
variable {es:List (Int×Int)} {n:Int} {hv:Si.Val n es}
theorem acy {T:List Nat} {e:Nat}:By (rv (gs es hv).toSys T) e↔By T e:=by
 constructor
 .rintro⟨x,hx,h⟩
  exact⟨_,fA.1 hx,by show Cs.twin x/2=e;rw[jf];exact h⟩
 .rintro⟨x,hx,h⟩
  exact⟨Cs.twin x,fA.2 (by show Cs.twin (Cs.twin x)∈T;rw[mS];exact hx),by rw[jf];exact h⟩
theorem acr {e e':Nat} (hv:Si.Val n es) (h:e<=e') (he':e'<es.length) {x:Nat} (hx:x/2=e'):Cs.fr es (2*e)<=Cs.fr es x:=by
 obtain⟨p,hp⟩:∃p,es[e]? =some p:=⟨_,aaE (by omega)⟩;obtain⟨q,hq⟩:∃q,es[e']? =some q:=⟨_,aaE he'⟩;have uH:=hv.each _ p hp;have BM:=hv.each _ q hq;unfold Si.ok at uH BM;have hle:p.1<=q.1:=by
  by_cases e1:e=e'
  .subst e1
   rw[hp] at hq;cases hq;exact acq _
  .have:=hv.mono e' e p q (by omega) hp hq
   unfold Si.lt at this;omega
 have f1:=(Cs.dQ hp).1;have f2:=(Cs.dQ hq).1;have f3:=(Cs.iJ hq).1;rcases abJ x with h2|h2
 .rw[show x=2*e' by omega]
  omega
 .rw[show x=2*e'+1 by omega]
  omega
theorem Hr {e b:Nat} (hf:First es hv e) (hb:b<2*es.length) (hin:∃x∈all (gs es hv).toSys b,x/2=e) (hk:lD (gs es hv).toSys (all (gs es hv).toSys b)\/(b=2*e/\eD (gs es hv).toSys (all (gs es hv).toSys b))):
 vs (gs es hv) (ch es hv e)=written (vs (gs es hv) (all (gs es hv).toSys b))/\∀e',By (ch es hv e) e'↔By (all (gs es hv).toSys b) e':=by
 obtain⟨T,hT⟩:∃T,T=all (gs es hv).toSys b:=⟨_,rfl⟩;obtain⟨t,nd,lt,_,_⟩:=bQ (S:=(gs es hv).toSys) hb;rw[<-hT] at hin hk t nd lt ⊢;have key:∀l,Cn (gs es hv) l->vs (gs es hv) l=written (vs (gs es hv) T)->T≠[]->vs (gs es hv) (ch es hv e)=written (vs (gs es hv) T)/\∀e',By (ch es hv e) e'↔By T e':=fun l c e1 hn=>by
  have hby:∀e',By l e'↔By T e':=fun e'=>by
   rcases S9 t hn lt c e1 with rfl|rfl
   .exact Iff.rfl
   .exact acy
  obtain⟨x,hx,gR⟩:=(hby e).2 hin;rw[sX c hx gR];exact⟨e1,hby⟩
 rcases hk with o|⟨hb2,c⟩
 .obtain⟨l,cn,e1,_⟩:=o.written lt
  exact key l cn e1 o.ne
 .have hm:∀x∈T,at_ (vs (gs es hv) T) 0<=(gs es hv).fr x:=fun x hx=>by
   have h0:T[0]? =some b:=by rw[hT];exact all_zero hb
   rw[mG h0,hb2];obtain⟨k,hk,hmin⟩:=Jr (fun i=>at_ (vs (gs es hv) T) i) (dF c.ne);obtain⟨l,cl,IY,ml,sub,_⟩:=c.turn lt hk hmin;obtain⟨l',cn,_,hall⟩:=cl.written IY ml;have hby:∀y∈T,By l' (y/2):=fun y hy=>by
    rcases hall y (sub y hy) with h|h
    .exact⟨y,h,rfl⟩
    .exact⟨_,h,jf y⟩
   obtain⟨y,hy,uJ⟩:=hin;obtain⟨z,hz,hze⟩:=hby y hy;have e1:=sX (hv:=hv) (e:=e) cn hz (by rw[hze,uJ]);have:=hf (x/2) (by rw[e1];exact hby x hx);have hxl:x<2*es.length:=lt x hx;exact acr hv this (by omega) rfl
  obtain⟨l,cn,e1,_⟩:=c.written lt hm;exact key l cn e1 c.ne
theorem Ms {k e':Nat} (hk:k<es.length) (hf:First es hv k) (h:By (ch es hv k) e'):¬ ∃l∈kN es hv k,By l e':=by
 rintro⟨l,hl,hb⟩;obtain⟨e,h1,h2,rfl⟩:=pK.1 hl;have a1:=Et hk h;have a2:=Et (by omega) hb;have:=hf e (by rw[<-a1,a2];exact(zY (by omega)).2);omega
theorem Ka {S:Sys} {T:List Nat} (t:Tr S T) (nd:T.Nodup) (htw:∀x y,x/2=y/2->x=y\/y=S.tw x) {i j x y:Nat} (hij:i<j) (hx:T[i]? =some x) (hy:T[j]? =some y):x/2≠y/2:=by
 intro e;rcases htw x y e with rfl|h
 .obtain⟨a1,a2⟩:=aaH.1 hx
  obtain⟨b1,b2⟩:=aaH.1 hy;have:=(aew nd).1 (a2.trans b2.symm);omega
 .exact t.sr (aaJ hx) (aaJ hy) h
theorem SH (x y:Nat) (e:x/2=y/2):x=y\/y=Cs.twin x:=by
 unfold Cs.twin
 split<;>omega
end
end Ku
end
section
open Go.Proofs.Tryz
open Go.RowKit Go.Sort
theorem O2 (w:World):Sort.grow w #[]=w:=by
 cases w;simp[Sort.grow]
theorem uY (B:Nat) (v:Value) (R:List Int) (w:World) (h:ak w B v R) (h0:R≠[]) (hl:R.length<=17592186044000):
 Calls prog 93 #[v] w fun e w'=>e= .returned (.tuple #[])/\ak w' B v R.reverse/\w.grownBy w' v.ownBlock:=by
 have hml:R.reverse.length=R.length:=acm;rcases h.2 with ⟨rfl,h1⟩|⟨g,cap,cur,rfl,hg,hh,hc,hm,hs,ht⟩
 .exact absurd (abY.1 h1) h0
 .rw[Nat.mul_one] at ht
  refine(Tryz.slices_Reverse_int g 0 cap R w (holds_of_blockI hh ht) (by omega)).mono ?_;rintro e w' ⟨rfl,n,rfl⟩;have a1:=ownsRow_sortedI (n:=n) (os:= #[]) hml hg hh hc hm hs;have a2:=grownBy_sortedI (w:=w) (g:=g) (n:=n) (os:= #[]) R.reverse.toArray;rw[O2] at a1 a2;refine⟨rfl,?_,a2⟩;unfold ak;rw[hml];exact a1
theorem E8 (B:Nat) (ao:Option Addr) (q c:Nat) (l:List Int) (w:World) (hq:l.length=q) (h:ak w B (.slice ao q c) l) (hB:B<=w.heap.size) (h2:2<=q) (hl:q<=17592186044000):
 Calls prog 210 #[.slice ao q c] w fun e w'=>e= .returned (.slice ao q c)/\ak w' B (.slice ao q c) (Ku.bU l)/\Below B w w':=by
 obtain⟨ao',c',e,hat,-⟩:=h.form;rw[hq] at e;cases e;have bK:=ζ h;have HLO:Hid (∀b,(Value.slice ao q c).ownBlock=some b->B<=b):=fun b hb=>(aaO h b hb).1
 obtain⟨q1,hq1⟩:∃q1,q1=q-1:=⟨_,rfl⟩;obtain⟨q2,xZ⟩:∃q2,q2=q-2:=⟨_,rfl⟩;obtain⟨x0,hx0⟩:∃x,l[0]? =some x:=⟨_,aaE (by omega)⟩;obtain⟨x1,hx1⟩:∃x,l[1]? =some x:=⟨_,aaE (by omega)⟩;obtain⟨xn,qC⟩:∃x,l[q1]? =some x:=⟨_,aaE (by omega)⟩;obtain⟨xm,Fw⟩:∃x,l[q2]? =some x:=⟨_,aaE (by omega)⟩;obtain⟨b,o,rfl,e0⟩:=hat 0 x0 hx0;obtain⟨_,_,e,e1⟩:=hat 1 x1 hx1;cases e;obtain⟨_,_,e,e2⟩:=hat q1 xn qC;cases e;obtain⟨_,_,e,e3⟩:=hat q2 xm Fw;cases e;rw[abG] at e0;have hw1:IntKind.i64.wrap ((q:Int)-1)=(q1:Int):=by rw[aaK];omega
 have hw2:IntKind.i64.wrap ((q1:Int)-1)=(q2:Int):=by rw[aaK];omega
 have i0:(0:Int)<(q:Int):=by omega
 have i1:(1:Int)<(q:Int):=by omega
 have i2:(0:Int)<=(q1:Int):=by omega
 have i3:(q1:Int)<(q:Int):=by omega
 have i4:(0:Int)<=(q2:Int):=by omega
 have i5:(q2:Int)<(q:Int):=by omega
 have tN:Hid (∀U:World,Below w.heap.size w U->(∀D:LW U,D.val.cell? ⟨b,o,none⟩=some (.int .i64 x0))/\(∀D:LW U,D.val.cell? ⟨b,o+1,none⟩=some (.int .i64 x1))/\(∀D:LW U,D.val.cell? ⟨b,o+q1,none⟩=some (.int .i64 xn))/\(∀D:LW U,D.val.cell? ⟨b,o+q2,none⟩=some (.int .i64 xm))):=fun U hU=>
  have key:∀(D:LW U) (i:Nat) (x:Value),w.cell? ⟨b,i,none⟩=some x->D.val.cell? ⟨b,i,none⟩=some x:=fun D i x hx=>((hU.trans (D.h.mono hU.size)).cell (p:=⟨b,i,none⟩) (block_lt_of_cell hx)).trans hx
  ⟨fun D=>key D _ _ e0,fun D=>key D _ _ e1,fun D=>key D _ _ e2,fun D=>key D _ _ e3⟩
 have yV:Hid (Ku.bU l=if xn<x0\/(x0=xn/\xm<x1) then l.reverse else l):=by
  show _=_;unfold Ku.bU;rw[hq,<-hq1,<-xZ,Ku.bR hx0,Ku.bR hx1,Ku.bR qC,Ku.bR Fw]
 have G5:l≠[]:=fun e=>by rw[e] at hq;simp at hq;omega
 have YZ:Hid (∀W,Below w.heap.size w W->Calls prog 93 #[.slice (some ⟨b,o,none⟩) q c] W fun e w'=>e= .returned (.tuple #[])/\ak w' B (.slice (some ⟨b,o,none⟩) q c) l.reverse/\W.grownBy w' (Value.slice (some ⟨b,o,none⟩) q c).ownBlock):=fun W hb=>uY B _ l W (bK.out.later hb) G5 (by omega)
 clear h hat hx0 hx1 qC Fw hq1 xZ e0 e1 e2 e3 G5;obtain⟨cb,hcb⟩:∃cb,(x0==xn)=cb:=⟨_,rfl⟩;by_cases ha:xn<x0
 .have HR:Hid (Ku.bU l=l.reverse):=by show _=_;rw[yV.out,if_pos (.inl ha)]
  have u1:decide (xn<x0)=true:=by simp only[decide_eq_true_eq];exact ha
  clear ha;go_enter func210,ntmps210;obtain⟨d0,d1,d2,d3⟩:=tN.out w (aaG w.heap.size w);have hne:=LW.any w;go_wp2_with fail;refine aH (by kernel_rfl) (by kernel_rfl) ?_
  repeat (go_big_quiet_step (fail))
  refine wpQuiet_nil ?_;rintro _ ⟨E,rfl⟩;have aD:=ζ (((aaG w.heap.size w)).trans (E.h.mono ((aaG w.heap.size w)).size));obtain⟨W1,dP⟩:∃WE,WE=E.val:=⟨_,rfl⟩;rw[<-dP] at aD ⊢;clear d0 d1 d2 d3 hne dP;obtain⟨d0,d1,d2,d3⟩:=tN.out W1 aD.out;have hne:=LW.any W1;go_wp2_with fail;refine aH (by kernel_rfl) (by kernel_rfl) ?_
  repeat (go_big_quiet_step (fail))
  refine wpQuiet_nil ?_;rintro _ ⟨E,rfl⟩;have aA:=ζ ((aD.out).trans (E.h.mono (aD.out).size));obtain⟨W2,dP⟩:∃WE,WE=E.val:=⟨_,rfl⟩;rw[<-dP] at aA ⊢;clear d0 d1 d2 d3 hne dP;have HT:=ζ (YZ.out W2 aA.out);go_wp2_with (go_at_call 93;refine HT.out.mono ?_;rintro e w3 ⟨rfl,ho,hgr⟩;refine aaI ?_);refine ζ ?_;have HO:=ζ ho;have aK:=ζ ((aA.out.mono hB).grown hgr (aa1 hB aA.out.size) (fun k hk=>HLO.out k hk));clear ho hgr;go_wp2;go_ret;exact⟨rfl,by rw[HR.out];exact HO.out,aK.out⟩
 .have u1:decide (xn<x0)=false:=by simp only[decide_eq_false_iff_not];exact ha
  by_cases hb:x0=xn
  .have t1:cb=true:=by rw[<-hcb];simp[hb]
   subst t1;by_cases hc:xm<x1
   .have u2:decide (xm<x1)=true:=by simp only[decide_eq_true_eq];exact hc
    have HR:Hid (Ku.bU l=l.reverse):=by show _=_;rw[yV.out,if_pos (.inr ⟨hb,hc⟩)]
    clear hb ha hc;go_enter func210,ntmps210;obtain⟨d0,d1,d2,d3⟩:=tN.out w (aaG w.heap.size w);have hne:=LW.any w;go_wp2_with fail;refine aH (by kernel_rfl) (by kernel_rfl) ?_
    repeat (go_big_quiet_step (fail))
    refine wpQuiet_nil ?_;rintro _ ⟨E,rfl⟩;have aD:=ζ (((aaG w.heap.size w)).trans (E.h.mono ((aaG w.heap.size w)).size));obtain⟨W1,dP⟩:∃WE,WE=E.val:=⟨_,rfl⟩;rw[<-dP] at aD ⊢;clear d0 d1 d2 d3 hne dP;obtain⟨d0,d1,d2,d3⟩:=tN.out W1 aD.out;have hne:=LW.any W1;go_wp2_with fail;refine aH (by kernel_rfl) (by kernel_rfl) ?_
    repeat (go_big_quiet_step (fail))
    refine wpQuiet_nil ?_;rintro _ ⟨E,rfl⟩;have aA:=ζ ((aD.out).trans (E.h.mono (aD.out).size));obtain⟨W2,dP⟩:∃WE,WE=E.val:=⟨_,rfl⟩;rw[<-dP] at aA ⊢;clear d0 d1 d2 d3 hne dP;have HT:=ζ (YZ.out W2 aA.out);go_wp2_with (go_at_call 93;refine HT.out.mono ?_;rintro e w3 ⟨rfl,ho,hgr⟩;refine aaI ?_);refine ζ ?_;have HO:=ζ ho;have aK:=ζ ((aA.out.mono hB).grown hgr (aa1 hB aA.out.size) (fun k hk=>HLO.out k hk));clear ho hgr;go_wp2;go_ret;exact⟨rfl,by rw[HR.out];exact HO.out,aK.out⟩
   .have u2:decide (xm<x1)=false:=by simp only[decide_eq_false_iff_not];exact hc
    have HR:Hid (Ku.bU l=l):=by show _=_;rw[yV.out,if_neg (by omega)]
    clear hb ha hc;go_enter func210,ntmps210;obtain⟨d0,d1,d2,d3⟩:=tN.out w (aaG w.heap.size w);have hne:=LW.any w;go_wp2_with fail;refine aH (by kernel_rfl) (by kernel_rfl) ?_
    repeat (go_big_quiet_step (fail))
    refine wpQuiet_nil ?_;rintro _ ⟨E,rfl⟩;have aD:=ζ (((aaG w.heap.size w)).trans (E.h.mono ((aaG w.heap.size w)).size));obtain⟨W1,dP⟩:∃WE,WE=E.val:=⟨_,rfl⟩;rw[<-dP] at aD ⊢;clear d0 d1 d2 d3 hne dP;obtain⟨d0,d1,d2,d3⟩:=tN.out W1 aD.out;have hne:=LW.any W1;go_wp2_with fail;refine aH (by kernel_rfl) (by kernel_rfl) ?_
    repeat (go_big_quiet_step (fail))
    refine wpQuiet_nil ?_;rintro _ ⟨E,rfl⟩;have aA:=ζ ((aD.out).trans (E.h.mono (aD.out).size));obtain⟨W2,dP⟩:∃WE,WE=E.val:=⟨_,rfl⟩;rw[<-dP] at aA ⊢;clear d0 d1 d2 d3 hne dP;have HO:=ζ (bK.out.later aA.out);go_wp2;go_ret;exact⟨rfl,by rw[HR.out];exact HO.out,aA.out.mono hB⟩
  .have t1:cb=false:=by rw[<-hcb];simp[hb]
   subst t1;have HR:Hid (Ku.bU l=l):=by show _=_;rw[yV.out,if_neg (by omega)]
   clear hb ha;go_enter func210,ntmps210;obtain⟨d0,d1,d2,d3⟩:=tN.out w (aaG w.heap.size w);have hne:=LW.any w;go_wp2_with fail;refine aH (by kernel_rfl) (by kernel_rfl) ?_
   repeat (go_big_quiet_step (fail))
   refine wpQuiet_nil ?_;rintro _ ⟨E,rfl⟩;have aD:=ζ (((aaG w.heap.size w)).trans (E.h.mono ((aaG w.heap.size w)).size));obtain⟨W1,dP⟩:∃WE,WE=E.val:=⟨_,rfl⟩;rw[<-dP] at aD ⊢;clear d0 d1 d2 d3 hne dP;obtain⟨d0,d1,d2,d3⟩:=tN.out W1 aD.out;have hne:=LW.any W1;go_wp2_with fail;refine aH (by kernel_rfl) (by kernel_rfl) ?_
   repeat (go_big_quiet_step (fail))
   refine wpQuiet_nil ?_;rintro _ ⟨E,rfl⟩;have aA:=ζ ((aD.out).trans (E.h.mono (aD.out).size));obtain⟨W2,dP⟩:∃WE,WE=E.val:=⟨_,rfl⟩;rw[<-dP] at aA ⊢;clear d0 d1 d2 d3 hne dP;have HO:=ζ (bK.out.later aA.out);go_wp2;go_ret;exact⟨rfl,by rw[HR.out];exact HO.out,aA.out.mono hB⟩
end
section
open Go.RowKit
section
variable {B:Nat} {v v':Value} {vs vs2:List Value} {ls Di:List (List Int)}
theorem ay.more {W w1:World} (h:ay W B v vs ls) (GY:vs2.length=Di.length) (Qa:∀(u:Nat) (x:Value) (l:List Int),vs2[u]? =some x->Di[u]? =some l->ak W B x l)
 (JA:∀(u u':Nat) (x x':Value) (b:Nat),u≠u'->vs2[u]? =some x->vs2[u']? =some x'->x.ownBlock=some b->x'.ownBlock≠some b) (hx:∀b,cS vs2 b->¬(v.ownBlock=some b\/cS vs b))
 (hown:w1.ownsRow B 55 1 v' (ls.length+Di.length) (vs++vs2)) (hgrow:W.grownBy w1 v.ownBlock) (hat:v'.ownBlock=v.ownBlock\/v'.ownBlock=some W.heap.size):ay w1 B v' (vs++vs2) (ls++Di):=by
 have hsame:∀g,v.ownBlock≠some g->g<W.heap.size->w1.heap[g]? =W.heap[g]? :=fun g hne hg=>hgrow.block g hg (fun e=>hne e.symm)
 have hpart:∀u y,(vs++vs2)[u]? =some y->(u<vs.length/\vs[u]? =some y)\/(vs.length<=u/\vs2[u-vs.length]? =some y):=fun u y hy=>by
  by_cases hu:u<vs.length
  .rw[aa5 hu] at hy
   exact .inl ⟨hu,hy⟩
  .rw[abk (by omega)] at hy
   exact .inr ⟨by omega,hy⟩
 have VB:∀{u:Nat} {x:Value},vs2[u]? =some x->∃l,Di[u]? =some l:=fun {u x} hx=>⟨_,aaE (by rw[<-GY];exact(aaH.1 hx).1)⟩
 refine⟨by simp[h.len,GY],by rw[aaZ];exact hown,fun u y k hy hk=> ?_,fun u u' y y' b hne hy hy' hb=> ?_,fun u y b hy hb=> ?_⟩
 .rcases hpart u y hy with ⟨hu,h1⟩|⟨hu,h1⟩
  .rw[aa5 (by rw[<-h.len];exact hu)] at hk
   exact(h.row u y k h1 hk).same fun g hg hl=>hsame g (h.far u y g h1 hg) hl
  .rw[abk (by rw[<-h.len];exact hu),<-h.len] at hk
   exact(Qa _ y k h1 hk).same fun g hg hl=>hsame g (fun e=>hx g ⟨_,y,h1,hg⟩ (.inl e)) hl
 .rcases hpart u y hy with ⟨hu,h1⟩|⟨hu,h1⟩<;>rcases hpart u' y' hy' with ⟨rK,h2⟩|⟨rK,h2⟩
  .exact h.apart u u' y y' b hne h1 h2 hb
  .intro hc
   exact hx b ⟨_,y',h2,hc⟩ (.inr ⟨u,y,h1,hb⟩)
  .intro hc
   exact hx b ⟨_,y,h1,hb⟩ (.inr ⟨u',y',h2,hc⟩)
  .exact JA _ _ y y' b (by omega) h1 h2 hb
 .intro hc
  rcases hat with e|e
  .rw[e] at hc
   rcases hpart u y hy with ⟨hu,h1⟩|⟨hu,h1⟩
   .exact h.far u y b h1 hb hc
   .exact hx b ⟨_,y,h1,hb⟩ (.inl hc)
  .have dO:=aa9 (e.symm.trans hc)
   rcases hpart u y hy with ⟨hu,h1⟩|⟨hu,h1⟩
   .obtain⟨k,hk⟩:=h.at h1
    have:=(aaO (h.row u y k h1 hk) b hb).2;omega
   .obtain⟨k,hk⟩:=VB h1
    have:=(aaO (Qa _ y k h1 hk) b hb).2;omega
theorem ay.within {W:World} (h:ay W B v vs ls) {b:Nat} (hb:v.ownBlock=some b\/cS vs b):B<=b/\b<W.heap.size:=by
 rcases hb with hb|⟨u,x,hx,hb⟩
 .exact aaO h.outer b hb
 .obtain⟨l,hl⟩:=h.at hx
  exact aaO (h.row u x l hx hl) b hb
end
theorem E6 {U:World} {o:Oper} {a:Act} {K:Act->World->Prop} {Q:Exit->Act->World->Prop} (s x:Operand) (ho:o.op= .call { callee:= .builtin .append,args:= #[s,x],argTypes:= #[25,25] })
 (B:Nat) (v:Value) (vs vs2:List Value) (ls Di:List (List Int)) (hR:ay U B v vs ls) (hB:B<=U.heap.size) (hs:a.eval s=v) (xo:Option Addr) (m c:Nat) (hm:Di.length=m) (hx:a.eval x= .slice xo m c) (qC:xo=none->c=0)
 (GY:vs2.length=Di.length) (hnews:∀j u,vs2[j]? =some u->∃ad,xo=some ad/\U.cell? (ad.add j)=some u) (hone:∀u∈vs2,u.oneCell'=true)
 (Qa:∀(u:Nat) (x:Value) (l:List Int),vs2[u]? =some x->Di[u]? =some l->ak U B x l)
 (JA:∀(u u':Nat) (x x':Value) (b:Nat),u≠u'->vs2[u]? =some x->vs2[u']? =some x'->x.ownBlock=some b->x'.ownBlock≠some b) (sI:∀b,cS vs2 b->¬(v.ownBlock=some b\/cS vs b))
 (hl:(ls.length+m)*24<=140737488355328)
 (h:∀v' w',ay w' B v' (vs++vs2) (ls++Di)->U.grownBy w' v.ownBlock->(v'.ownBlock=v.ownBlock\/v'.ownBlock=some U.heap.size)->K (a.put o.dst v') w'):o.wp Tryz.prog a U K Q:=by
 obtain⟨i1,hi1,hy0,hy1,hy2⟩:=info_parts Tryz.nu;cases xo with
 |none=>
  have h0:vs2=[]:=by
   cases vs2 with
   |nil=>rfl
   |cons y vs2=>
    obtain⟨ad,e,_⟩:=hnews 0 y rfl;cases e
  subst h0;have h1:Di=[]:=abY.1 (by rw[<-GY];rfl);subst h1;subst hm;obtain rfl:=qC rfl;have hr:=run_append_owned_none (P:=Tryz.prog) (w:=U) B 25 o.type 55 i1 1 Tryz.underlying25 hi1 v ls.length vs hR.outer;unfold Oper.wp execOp;simp only[ho,resolve,invoke,builtin,Sem.run_bind,Sem.run_pure,aea,aeD,acB,aen,hs,hx];rw[ab3,hr];refine h v U ?_ ⟨rfl,rfl,rfl,aaF _,fun _ _ _=>rfl⟩ (.inl rfl);rw[abP,abP];exact hR
 |some ad=>
  obtain⟨v',w',hr,h2,h3,_,h5⟩:=run_append_own_at (P:=Tryz.prog) U B 25 o.type 55 i1 (.slice none 0 0) 1 24 Tryz.underlying25 hi1 hy0 hy1 hy2 rfl (by decide) v ls.length vs hR.outer ad m c vs2 (by rw[GY,hm];omega) (fun j u hj=>by
   obtain⟨ad',e,hc⟩:=hnews j u hj;cases e;exact hc) hone (by unfold maxLen;omega) hl hB
  unfold Oper.wp execOp;simp only[ho,resolve,invoke,builtin,Sem.run_bind,Sem.run_pure,aea,aeD,acB,aen,hs,hx,hr];refine h v' w' (hR.more GY Qa JA sI (by rw[hm];exact h2) h3 h5) h3 h5
end
section
open Go.RowKit
theorem Ew:Tryz.prog.cellsOf 66=2:=by kernel_rfl
theorem Ev:Tryz.prog.cellsOf 3=1:=by kernel_rfl
def dw (e:Int×Int):Prop:=(-9223372036854775808<=e.1/\e.1<=9223372036854775807)/\-9223372036854775808<=e.2/\e.2<=9223372036854775807
theorem JY {x:Int} (h: -9223372036854775808<=x/\x<=9223372036854775807):(Lit.int .i64 x).wf=true:=WalkArith.wf_i64 (by omega)
end
end Go.Proofs.YtdbjpbjocmcpkaaGreatDoor
