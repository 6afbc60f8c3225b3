import Derived.Test.YtbhdibflpjhpaaaGreatMg03
import Derived.BigRegion
set_option maxHeartbeats 8000000
set_option maxRecDepth 100000
namespace Go.Proofs.YtbhdibflpjhpaaaGreat
section
open Go.Proofs.Tryz
open Go.RowKit
theorem SV (p gd gs gh gp gt gf cf n M:Nat) (H Pl T F:List Int) (h u v q:Nat) (w:World) (hA:bW w p gd gs gh gp gt n M) (iH:aF w gh H) (iP:aF w gp Pl) (iT:aF w gt T) (iF:aF w gf F)
 (lH:H.length=M) (lP:Pl.length=M) (lT:T.length=M) (lF:F.length=n) (hh:h<M) (hu:u<n) (hq:F[u]? =some (q:Int)) (hqM:q<M) (hM:M<=8388608)
 (d2:p≠gp) (d3:p≠gt) (d5:gh≠gp) (d6:gh≠gt) (d7:gp≠gt) (d8:gf≠gh) (d9:gf≠gp) (d10:gf≠gt):
 Calls prog 39 #[.pointer (some ⟨p,0,none⟩),.int .i64 h,.int .i64 u,.int .i64 v,.slice (some ⟨gf,0,none⟩) n cf] w fun e w'=>
  e= .returned (.tuple #[])/\aF w' gh (H.set q h)/\aF w' gp (Pl.set h q)/\aF w' gt (T.set h v)/\aF w' gf (F.set u ((q:Int)+1))/\az (fun b=>b=gh\/b=gp\/b=gt\/b=gf) w w':=by
 obtain⟨w1,hw1⟩:∃w1,w1=w.setCell ⟨gt,h,none⟩ (.int .i64 v):=⟨_,rfl⟩;obtain⟨w2,hw2⟩:∃w2,w2=w1.setCell ⟨gp,h,none⟩ (.int .i64 q):=⟨_,rfl⟩;obtain⟨w3,hw3⟩:∃w3,w3=w2.setCell ⟨gh,q,none⟩ (.int .i64 h):=⟨_,rfl⟩;obtain⟨x0,hx0⟩:∃x,T[h]? =some x:=⟨_,aac (by omega)⟩;obtain⟨x1,hx1⟩:∃x,Pl[h]? =some x:=⟨_,aac (by omega)⟩;obtain⟨x2,hx2⟩:∃x,H[q]? =some x:=⟨_,aac (by omega)⟩;have A1:=hA.other (i:=h) d3 (.int .i64 v);have H1:=iH.other (i:=h) d6 (.int .i64 v);have P1:=iP.other (i:=h) d7 (.int .i64 v);have T1:=iT.set (i:=h) (by omega) (v:Int);have F1:=iF.other (i:=h) d10 (.int .i64 v);rw[<-hw1] at A1 H1 P1 T1 F1;have A2:=A1.other (i:=h) d2 (.int .i64 q);have H2:=H1.other (i:=h) d5 (.int .i64 q);have P2:=P1.set (i:=h) (by omega) (q:Int);have T2:=T1.other (i:=h) (aao d7) (.int .i64 q);have F2:=F1.other (i:=h) d9 (.int .i64 q);rw[<-hw2] at A2 H2 P2 T2 F2;have H3:=H2.set (i:=q) (by omega) (h:Int);have P3:=P2.other (i:=q) (aao d5) (.int .i64 h);have T3:=T2.other (i:=q) (aao d6) (.int .i64 h);have F3:=F2.other (i:=q) d8 (.int .i64 h);rw[<-hw3] at H3 P3 T3 F3;have H4:=H3.other (i:=u) (aao d8) (.int .i64 ((q:Int)+1));have P4:=P3.other (i:=u) (aao d9) (.int .i64 ((q:Int)+1));have T4:=T3.other (i:=u) (aao d10) (.int .i64 ((q:Int)+1));have F4:=F3.set (i:=u) (by omega) ((q:Int)+1);have SH:az (fun b=>b=gh\/b=gp\/b=gt\/b=gf) w (w3.setCell ⟨gf,u,none⟩ (.int .i64 ((q:Int)+1))):=by
  rw[hw3,hw2,hw1];exact((((az.refl _ w).setCell (.inr (.inr (.inl rfl))) _).setCell (.inr (.inl rfl)) _).setCell (.inl rfl) _).setCell (.inr (.inr (.inr rfl))) _
 have bX:=ζ (And.intro H4 (And.intro P4 (And.intro T4 (And.intro F4 SH))));have a4:=hA.c4;have a3:=A1.c3;have a2:=A2.c2;have t0:=iT.cell hx0;have tf:=iT.free;have p0:=P1.cell hx1;have pf:=P1.free;have f1:=F1.cell hq;have h0:=H2.cell hx2;have hf:=H2.free;have f2:=F2.cell hq;have f3:=F3.cell hq;have f3f:=F3.free;have pE:=ζ hw1;have qh:=ζ hw2;have qX:=ζ hw3;have s1:w1.heap.size=w.heap.size:=by rw[hw1];simp
 have i0:(0:Int)<=(h:Int):=by omega
 have i1:(h:Int)<(M:Int):=by omega
 have i2:(0:Int)<=(u:Int):=by omega
 have i3:(u:Int)<(n:Int):=by omega
 have i4:(0:Int)<=(q:Int):=by omega
 have i5:(q:Int)<(M:Int):=by omega
 clear hA iH iP iT iF A1 H1 P1 T1 F1 A2 H2 P2 T2 F2 H3 P3 T3 F3 H4 P4 T4 F4 SH hw1 hw2 hw3 hx0 hx1 hx2 hq lH lP lT lF d2 d3 d5 d6 d7 d8 d9 d10;go_enter func39,ntmps39;go_wp2_with fail;rw[<-pE.out];go_big_region;rw[<-qh.out];go_wp2_with fail;go_big_region;rw[<-qX.out];go_wp2
 go_end0
 exact⟨rfl,bX.out.1,bX.out.2.1,bX.out.2.2.1,bX.out.2.2.2.1,bX.out.2.2.2.2.drew.drew⟩
theorem Hv {w:World} {g n:Nat} {S:List Int} (h:aF w g S) (hl:S.length=n) (hn:n<=8388608) (hw:∀x∈S,-9223372036854775808<=x/\x<=9223372036854775807):Am .i64 8 w (some ⟨g,0,none⟩) n n S:=by
 refine .inr ⟨_,rfl,aad _,by omega,hl,fun i hi=> ?_,fun x hx=>WalkArith.wf_i64 (by have:=hw x hx;omega)⟩;have e:((⟨g,0,none⟩:Addr).add i)=⟨g,i,none⟩:=by
  by_cases h0:i=0<;>simp[Addr.add,h0]
 rw[e];exact h.cell (by rw[aag,aac hi];rfl)
theorem OV (g n:Nat) (S:List Int) (w:World) (h:aF w g S) (hl:S.length=n) (hn:n<=8388608) (hw:∀x∈S,-9223372036854775808<=x/\x<=9223372036854775807):
 Calls prog 38 #[.slice (some ⟨g,0,none⟩) n n] w fun e w'=>∃gf cf,e= .returned (.slice (some ⟨gf,0,none⟩) n cf)/\w.heap.size<=gf/\aF w' gf S/\Below w.heap.size w w':=by
 obtain⟨i0,hi,hz0,hz1,hz2⟩:=info_parts Tryz.cM;have hr:=Hv h hl hn hw;have HR:=ζ hr;have hnil:=fun w=>Lib.run_eql_slice_nil (P:=prog) w 27 3 (some ⟨g,0,none⟩) n n 0 0 Tryz.underlying27
 clear hr h hw;go_enter func38,ntmps38;go_wp2_with (at_builtin;refine G7 rfl _ _ 27 rfl 3 .i64 i0 8 Tryz.underlying27 hi hz0 hz1 hz2 (by decide) w (some ⟨g,0,none⟩) n n S rfl rfl HR.out ?_;refine abQ ?_);refine ζ ?_;intro gb c w1 hrow hgb hlt hc hb;have HX:=ζ hrow;have HB:=ζ hb;have HG:=ζ hgb;clear hrow hb hgb;go_wp2;go_ret;refine⟨gb,c,rfl,HG.out,?_,HB.out⟩;have:=HX.out;rw[acL (by simp;omega)] at this;exact yx this
def L9 (es:List (Int×Int)) (n M:Nat) (w:World) (e:Ending) (w':World):Prop:=
 ∃(gs:Nat) (S:List Int),e= .returned (.slice (some ⟨gs,0,none⟩) n n)/\w.heap.size<=gs/\gs<w'.heap.size/\aF w' gs S/\S.length=n/\(∀v,v<n->S[v]? =some (Cs.st es M v:Int))/\Below w.heap.size w w'
theorem JV (es:List (Int×Int)) (gd n M:Nat) (D:List Int) (w:World) (hD:aF w gd D) (hl:D.length=n) (hn:n<=1048576) (hM:M<=8388608) (hd:∀v,v<n->D[v]? =some ((Cs.out es v M).length:Int)) (hf:∀i,i<M->Cs.fr es i<n):
 Calls prog 22 #[.slice (some ⟨gd,0,none⟩) n n] w (L9 es n M w):=by
 obtain⟨i0,hi,hz0,hz1,hz2⟩:=info_parts Tryz.cM;have HD:=ζ hD;have Pn:=ζ hd;have HF:=ζ hf;have hlt:=hD.lt;clear hD hd hf;go_enter func22,ntmps22;go_wp2_with (at_make;refine wpList_make_full _ rfl _ _ 27 rfl w.heap.size 3 i0 (.int .i64 0) 1 Tryz.underlying27 hi hz0 hz1 _ _ _ _ n rfl rfl rfl rfl (by rw[hz2];omega) (by unfold maxLen;omega) (aad _) ?_;refine abQ ?_);refine ζ ?_;intro w2 hrow hg2;rw[dD] at hrow;have hik:=(eu hrow).ins;have hb2:Below w.heap.size w w2:=(aae _ _).grown hg2 (aad _) (fun j hj=>by cases hj);have iM:=ζ hik;have cj:=ζ hb2;clear hrow hg2 hik hb2;go_wp2;go_loopw [4,11] (fun s c wr=>∃(k:Nat) (S:List Int),k<=n/\c= .int .i64 k/\s= .int .i64 (Cs.st es M k)/\S.length=n/\(∀v,v<k->S[v]? =some (Cs.st es M v:Int))/\aF wr w.heap.size S/\Below w.heap.size w wr) (fun _ c _=>n-(intOf c).toNat)
 case atStart=>exact⟨0,_,ab6 _,rfl,rfl,by simp,fun v hv=>by omega,iM.out,cj.out⟩
 case round=>
  obtain⟨k,S,hk,rfl,rfl,V9,hS,jx,hb⟩:=hrel;have hsz:=jx.lt;have HS:=ζ hS;have HIS:=ζ jx;have HB:=ζ hb;by_cases hkn:k<n
  .have hk0:(0:Int)<=(k:Int):=by omega
   have hk1:(k:Int)<(n:Int):=by omega
   obtain⟨x,hx⟩:∃x,S[k]? =some x:=⟨_,aac (by omega)⟩;have c0:=jx.cell hx;have c1:=jx.free;have n1:=jx.set (i:=k) (by omega) (Cs.st es M k:Int);have Mm:=ζ n1;have d1:(wr.setCell ⟨w.heap.size,k,none⟩ (.int .i64 (Cs.st es M k))).cell? ⟨gd,k,none⟩=some (.int .i64 ((Cs.out es k M).length:Int)):=by
    have:=(HD.out.later hb).cell (Pn.out k hkn);rw[<-this];simp[World.cell?,heap_setCell_other wr ⟨w.heap.size,k,none⟩ gd _ (by simp;omega)]
   have Mw:=ζ (hb.setCell (p:=⟨w.heap.size,k,none⟩) (aad _) (.int .i64 (Cs.st es M k:Int)));have hle:=Cs.CS HF.out hkn;have hst:Cs.st es M (k+1)=Cs.st es M k+(Cs.out es k M).length:=rfl;have HST:=ζ hst;have hny:∃y,y=(Cs.out es k M).length:=⟨_,rfl⟩;obtain⟨y,hy⟩:=hny;have hnz:∃z,z=Cs.st es M k:=⟨_,rfl⟩;obtain⟨z,hz⟩:=hnz;have HZ:=ζ hz.symm;rw[<-hy] at d1 hle hst HST;rw[<-hz] at d1 hle hst HST Mm Mw n1 ⊢;clear hS jx hb n1 hx hst hy hz;go_wp2;go_roundw
   case rel=>
    refine⟨k+1,S.set k z,by omega,by go_num,by rw[HST.out];go_num,by simp[V9],fun v hv=> ?_,Mm.out,Mw.out⟩;rw[ab0];by_cases e:k=v
    .subst e
     rw[if_pos rfl,if_pos (by omega),HZ.out]
    .rw[if_neg e]
     exact HS.out v (by omega)
   case measure=>simp[intOf];omega
  .have hd:¬((k:Int)<(n:Int)):=by omega
   clear hS jx hb;go_wp2;go_ret;exact⟨w.heap.size,S,rfl,aad _,hsz,HIS.out,V9,fun v hv=>HS.out v (by omega),HB.out⟩
def G0 (es:List (Int×Int)) (n M gh gp gt:Nat) (w:World) (e:Ending) (w':World):Prop:=
 e= .returned (.tuple #[])/\(∃H Pl T F:List Int,Cs.pU es n M M H Pl T F/\aF w' gh H/\aF w' gp Pl/\aF w' gt T)/\az (fun b=>b=gh\/b=gp\/b=gt) w w'
theorem az.next {S S':Nat->Prop} {w0 w w':World} (h:az S w0 w) (k:az S' w w') (hS:∀b,b<w0.heap.size->S' b->S b):az S w0 w':=
 ⟨k.os.trans h.os,k.tape.trans h.tape,k.output.trans h.output,acA h.size k.size,fun i hi hn=>(k.block i (acU hi h.size) (fun hs=>hn (hS i hi hs))).trans (h.block i hi hn)⟩
def sG (es:List (Int×Int)) (p gd gs gh gp gt gf n M k:Nat) (w:World):Prop:=
 bW w p gd gs gh gp gt n M/\∃H Pl T F:List Int,Cs.pU es n M k H Pl T F/\aF w gh H/\aF w gp Pl/\aF w gt T/\aF w gf F
theorem sG.later {es:List (Int×Int)} {p gd gs gh gp gt gf n M k:Nat} {w w':World} (h:sG es p gd gs gh gp gt gf n M k w) (hb:Below w.heap.size w w'):sG es p gd gs gh gp gt gf n M k w':=by
 obtain⟨hA,H,Pl,T,F,hf,h1,h2,h3,h4⟩:=h;exact⟨hA.later hb,H,Pl,T,F,hf,h1.later hb,h2.later hb,h3.later hb,h4.later hb⟩
structure QZ (p gh gp gt gf:Nat):Prop where
 d1:p≠gh
 d2:p≠gp
 d3:p≠gt
 d4:p≠gf
 d5:gh≠gp
 d6:gh≠gt
 d7:gp≠gt
 d8:gf≠gh
 d9:gf≠gp
 d10:gf≠gt
theorem KD (es:List (Int×Int)) (p gd gs gh gp gt gf cf n M k:Nat) (w:World) (hL:sG es p gd gs gh gp gt gf n M k w) (hlt:∀i,i<M->Cs.fr es i<n) (hk:k<M) (hM:M<=8388608) (hd:QZ p gh gp gt gf):
 Calls prog 39 #[.pointer (some ⟨p,0,none⟩),.int .i64 k,.int .i64 (Cs.fr es k:Int),.int .i64 (Cs.to es k:Int),.slice (some ⟨gf,0,none⟩) n cf] w fun e w'=>
  e= .returned (.tuple #[])/\sG es p gd gs gh gp gt gf n M (k+1) w'/\az (fun b=>b=gh\/b=gp\/b=gt\/b=gf) w w':=by
 obtain⟨hA,H,Pl,T,F,hf,h1,h2,h3,h4⟩:=hL;refine(SV p gd gs gh gp gt gf cf n M H Pl T F k (Cs.fr es k) (Cs.to es k) (Cs.pos es M k) w hA h1 h2 h3 h4 hf.lH hf.lP hf.lT hf.lF hk (hlt k hk) (hf.at (hlt k hk)) (Cs.PU hlt hk) hM hd.d2 hd.d3 hd.d5 hd.d6 hd.d7 hd.d8 hd.d9 hd.d10).mono ?_;rintro e w' ⟨he,k1,k2,k3,k4,hw⟩;refine⟨he,⟨hA.wrote hw (fun h=> ?_),_,_,_,_,hf.step hlt hk,k1,k2,k3,k4⟩,hw⟩;rcases h with h|h|h|h
 .exact hd.d1 h
 .exact hd.d2 h
 .exact hd.d3 h
 .exact hd.d4 h
theorem SM (es:List (Int×Int)) (ao:Option Addr) (cap p gd gs gh gp gt n M:Nat) (S H Pl T:List Int) (w0 w:World) (hv:Si.Val n es) (hM:M=2*es.length) (he:aN w0 ao es) (hb:Below w0.heap.size w0 w)
 (hA:bW w p gd gs gh gp gt n M) (iS:aF w gs S) (iH:aF w gh H) (iP:aF w gp Pl) (iT:aF w gt T) (lS:S.length=n) (hS:∀v,v<n->S[v]? =some (Cs.st es M v:Int)) (lH:H.length=M) (lP:Pl.length=M) (lT:T.length=M)
 (b1:w0.heap.size<=gh) (b2:w0.heap.size<=gp) (b3:w0.heap.size<=gt) (d1:p≠gh) (d2:p≠gp) (d3:p≠gt) (d5:gh≠gp) (d6:gh≠gt) (d7:gp≠gt):
 Calls prog 23 #[.pointer (some ⟨p,0,none⟩),.slice ao es.length cap] w (G0 es n M gh gp gt w):=by
 have dH:=hv.few;have hhi:=hv.hi;have hlt:∀i,i<M->Cs.fr es i<n:=fun i hi=>(Cs.bI hv (by omega)).1
 have hwf:∀x∈S,-9223372036854775808<=x/\x<=9223372036854775807:=fun x hx=>by
  obtain⟨v,hv',rfl⟩:=adk hx;have h1:=hS v (by omega);rw[aac hv'] at h1;have h2:=Cs.CS (v:=v) hlt (by omega);have h3:=aal h1;omega
 have hcl:=OV gs n S w iS lS (by omega) hwf;have q8:=ζ hcl;have a1:=hA.c1;have s1:=iH.lt;have s2:=iP.lt;have s3:=iT.lt;have s4:=hA.lt;have HV:=ζ hv;have tA:=ζ hlt;have HE:=ζ he;have HB:=ζ hb;have hF0:Cs.pU es n M 0 H Pl T S:=⟨lH,lP,lT,lS,fun i hi=>by omega,fun i hi=>by omega,fun i hi=>by omega,fun v hv=>by rw[hS v hv];simp[Cs.out]⟩;have HPD:Hid (∀gf,w.heap.size<=gf->QZ p gh gp gt gf):=fun gf hgf=>⟨d1,d2,d3,by omega,d5,d6,d7,by omega,by omega,by omega⟩
 have Tl:Hid (∀gf w2,Below w.heap.size w w2->aF w2 gf S->sG es p gd gs gh gp gt gf n M 0 w2):=fun gf w2 hb hi=>⟨hA.later hb,H,Pl,T,S,hF0,iH.later hb,iP.later hb,iT.later hb,hi⟩
 clear hcl hv hlt he hb hA hF0 iS iH iP iT hS hwf lH lP lT lS d1 d2 d3 d5 d6 d7;go_enter func23,ntmps23;go_wp2_with (go_at_call 38;refine q8.out.mono ?_;rintro e w2 ⟨gf,cf,rfl,hgf,Sz,hb2⟩;refine abQ ?_);refine ζ ?_;have cj:=ζ hb2;have nj:=ζ (Tl.out gf w2 hb2 Sz);have HPG:=ζ (HPD.out gf hgf);have hgs:=Sz.lt;clear hb2 Sz q8;go_wp2;go_loopw [14] (fun c wr=>∃k:Nat,k<=es.length/\c= .int .i64 k/\sG es p gd gs gh gp gt gf n M (2*k) wr/\az (fun b=>b=gh\/b=gp\/b=gt) w wr) (fun c _=>es.length-(intOf c).toNat)
 case atStart=>exact⟨0,ab6 _,rfl,nj.out,(az.refl _ _).later cj.out⟩
 case round=>
  obtain⟨k,hk,rfl,KY,hwr⟩:=hrel;have aiZ:=ζ KY;have lD:=ζ hwr;by_cases hlt:k<es.length
  .have kR:(k:Int)<(es.length:Int):=by omega
   have hk0:(0:Int)<=(k:Int):=by omega
   obtain⟨q,hq⟩:∃q,es[k]? =some q:=⟨_,aac hlt⟩;have hb3:Below w0.heap.size w0 wr:=HB.out.trans (hwr.below HB.out.size (fun b hb=>by rcases hb with rfl|rfl|rfl<;>assumption));obtain⟨b,o,rfl,c0,c1⟩:=(HE.out.later hb3) k q hq;have hbl:b<wr.heap.size:=block_lt_of_cell c0;have hok:=HV.out.each k q hq;unfold Si.ok at hok;obtain⟨qu,qv⟩:=q;dsimp only at c0 c1 hok;obtain⟨u,rfl⟩:∃u:Nat,qu=(u:Int):=⟨qu.toNat,by omega⟩;obtain⟨v,rfl⟩:∃v:Nat,qv=(v:Int):=⟨qv.toNat,by omega⟩;obtain⟨e1,e2⟩:=Cs.eP hq;obtain⟨e3,e4⟩:=Cs.pN hq;dsimp only[Int.toNat_natCast] at e1 e2 e3 e4;have qI:=KD es p gd gs gh gp gt gf cf n M (2*k) _ (KY.later ((aae _ _).alloc (aad _) (.cells #[.int .i64 u,.int .i64 v] 38))) tA.out (by omega) (by omega) HPG.out;rw[e1,e2,show((2*k:Nat):Int)=2*(k:Int) by omega] at qI;have hl2:=fun W hW=>KD es p gd gs gh gp gt gf cf n M (2*k+1) W hW tA.out (by omega) (by omega) HPG.out
   rw[e3,e4,show((2*k+1:Nat):Int)=2*(k:Int)+1 by omega] at hl2;have Mn:=ζ qI;have aby:=ζ hl2;have hnew:(wr.alloc (.cells #[.int .i64 u,.int .i64 v] 38)).heap[wr.heap.size]? =some (.cells #[.int .i64 u,.int .i64 v] 38 (0,0)):=heap_alloc_new wr _;have hsw:=hwr.size;have hpf:=HPG.out;have anC:gf<wr.heap.size:=by
    obtain⟨_,_,_,_,_,_,_,_,_,h4⟩:=KY;exact h4.lt
   have zg:Hid (¬(wr.heap.size=gh\/wr.heap.size=gp\/wr.heap.size=gt\/wr.heap.size=gf)):=by
    show ¬_;omega
   have ko:=ζ hnew;clear qI hl2 KY hwr hb3 hok hq hnew hpf;go_wp2_with (go_at_call 39;refine Mn.out.mono ?_;rintro e w3 ⟨rfl,Vr,hw3⟩;refine abQ ?_);refine ζ ?_;have hn3:=(hw3.block wr.heap.size (by simp) zg.out).trans ko.out;obtain⟨x0,x1,-⟩:=aj hn3;have abx:=ζ (aby.out w3 Vr);have qX:=ζ (((lD.out.alloc _).next hw3 (fun b hb h=>by rcases h with h|h|h|h;exact .inl h;exact .inr (.inl h);exact .inr (.inr h);omega)));have hs3:=hw3.size;have anD:=lt_of_block hn3;clear hw3 Vr hn3 Mn aby ko;go_wp2_with (go_at_call 39;refine abx.out.mono ?_;rintro e w4 ⟨rfl,Vq,hw4⟩;refine abQ ?_);refine ζ ?_;have xJ:=ζ (qX.out.next hw4 (fun b hb h=>by rcases h with h|h|h|h;exact .inl h;exact .inr (.inl h);exact .inr (.inr h);omega));have HL4:=ζ Vq;clear hw4 Vq abx;go_wp2;go_roundw
   case rel=>exact⟨k+1,by omega,by go_num,HL4.out,xJ.out⟩
   case measure=>simp[intOf];omega
  .have hd:¬((k:Int)<(es.length:Int)):=by omega
   obtain rfl:k=es.length:=by omega
   clear KY hwr;go_wp2
   go_end0
   obtain⟨_,H1,P1,T1,F1,hf,i1,i2,i3,_⟩:=aiZ.out;rw[hM] at hf;exact⟨rfl,⟨H1,P1,T1,F1,hf,i1,i2,i3⟩,lD.out⟩
end
end Go.Proofs.YtbhdibflpjhpaaaGreat
