import Derived.Test.YtbhdibflpjhpaaaGreatMg30
set_option maxHeartbeats 16000000
set_option maxRecDepth 100000
namespace Go.Proofs.YtbhdibflpjhpaaaGreat
section
open Go.Proofs.Tryz
open Go.RowKit
def S8 (w0:World) (p gp:Nat) (av:Value) (f:For) (s:Df.St) (n:Nat) (es:List (Int×Int)) (P:List Int) (e:Ending) (w':World):Prop:=
 (∃gb W B,e= .returned (.bool true)/\Df.side n es s n=some (W,B)/\aO w0 w' p av f s (.slice (some ⟨gp,0,none⟩) n n) (.slice (some ⟨gb,0,none⟩) n n)/\af w' gp P/\af w' gb (Df.ends n W B))\/(e= .returned (.bool false)/\Df.side n es s n=none/\Below w0.heap.size w0 w')
section
variable {w0 w:World} {p gp:Nat} {av:Value} {f:For} {s:Df.St} {pv bv:Value} {n:Nat} {es:List (Int×Int)} {P:List Int}
theorem m9 (aV:bK w0 av n es) (hF:mV w0 f s) (hL:Df.wG n es s) (ho:Df.jk n s n) (h:aO w0 w p av f s (.slice (some ⟨gp,0,none⟩) n n) bv) (hip:af w gp P) (hne:gp≠p) (hlg:w0.heap.size<=gp):
 Calls prog 116 #[.pointer (some ⟨p,0,none⟩)] w (S8 w0 p gp av f s n es P):=by
 obtain⟨i0,hi,hz0,hz1,hz2⟩:=info_parts Tryz.cM;obtain⟨yD,lZ⟩:=aV.bounds;obtain⟨l1,l2,l3,l4⟩:=hL;obtain⟨a1,a2,a3,a4,k1,k2,k3,k4⟩:=f;have kT:∃q,av= .pointer q:=by
  rcases aV with ⟨h,_⟩|⟨_,p,h,_⟩
  .exact⟨_,h⟩
  .exact⟨_,h⟩
 obtain⟨qa,rfl⟩:=kT;have c0:=h.c0;have HN:=ζ (mE (.pointer qa) n es w (aV.later h.aZ));have hmk:∀V,(Instr.makeSlice 27 (.int .i64 (n:Int)) (.int .i64 (n:Int))).run prog V= .ok (.slice (some ⟨V.heap.size,0,none⟩) n n) (V.alloc (.cells (madeCells #[.int .i64 0] n) 3)):=fun V=>by
  have:=run_make (P:=prog) V 27 3 i0 (.int .i64 0) Tryz.underlying27 hi hz0 .i64 .i64 (n:Int) (n:Int) (by omega) (adA _) (by rw[hz2];omega) (by omega);rw[this,hz1];simp[Value.cells]
 have hlp:=h.lt;have anv:=hip.lt;have f6:=h.free 6;have c6:=h.c6;obtain⟨w1,hw1⟩:∃w1,w1=w.setCell ⟨p,6,none⟩ (.slice (some ⟨w.heap.size,0,none⟩) n n):=⟨_,rfl⟩;have h1:=h.TZ (.slice (some ⟨w.heap.size,0,none⟩) n n);have Vv:=hip.bO (i:=6) (b:=p) hne (.slice (some ⟨w.heap.size,0,none⟩) n n);rw[<-hw1] at h1 Vv;have hs1:w1.heap.size=w.heap.size:=by rw[hw1];simp
 obtain⟨w2,hw2⟩:∃w2,w2=w1.alloc (.cells (madeCells #[.int .i64 0] n) 3):=⟨_,rfl⟩;have hb2:Below w1.heap.size w1 w2:=by rw[hw2];exact(aae _ _).alloc (aad _) _
 have aa5:af w2 w.heap.size (List.replicate n 0):=by
  unfold af;rw[hw2,alloc_at hs1,<-dD]
 have h2:=h1.later hb2;have aa0:=Vv.later hb2;obtain⟨w3,hw3⟩:∃w3,w3=w2.alloc (.cells #[.slice none 0 0] 98):=⟨_,rfl⟩;have hb3:Below w2.heap.size w2 w3:=by rw[hw3];exact(aae _ _).alloc (aad _) _
 have hs2:w2.heap.size=w.heap.size+1:=by rw[hw2];simp[hs1]
 have UY:=h.aZ.size;have N5:eI w0 w3 p (w.heap.size+1) gp w.heap.size (.pointer qa) ⟨a1,a2,a3,a4,k1,k2,k3,k4⟩ s n (.slice none 0 0) P (List.replicate n 0) []:=by
  refine⟨h2.later hb3,aa0.later hb3,aa5.later hb3,⟨?_,rfl,.nil _ _,by simp[Value.ownBlock]⟩,⟨aao hne,by omega,by omega,by omega,by omega,by omega⟩,⟨hlg,UY,by omega⟩,by simp[Value.ownBlock]⟩;rw[hw3];exact alloc_at hs2
 have c3:=N5.rd.c3;have XJ:=ζ N5;have pE:=ζ hw1;have qh:=ζ hw2;have qX:=ζ hw3;have cP:=ζ aV;have HF:=ζ hF;have HO:=ζ ho;dsimp only at c3;rw[hw3,hw2,hw1] at c3;clear aV hF ho h hip h1 Vv hb2 h2 aa5 aa0 hb3 N5 hw1 hw2 hw3;go_enter func116,ntmps116;go_wp2_with (go_at_call 24;refine HN.out.mono ?_;rintro e w4 ⟨rfl,hw4⟩;obtain rfl:=hw4.symm);rw[<-pE.out,<-qh.out,<-qX.out];obtain⟨Q,hQ⟩:∃Q,w.heap.size+1=Q:=⟨_,rfl⟩;obtain⟨gb,hgb⟩:∃gb,w.heap.size=gb:=⟨_,rfl⟩;rw[hgb] at hQ;rw[hgb,hQ] at XJ ⊢;clear hmk c0 c6 f6 c3 pE qh qX;go_loopw [22] (fun c wr=>∃(k:Nat) (W B:List Int) (v:Value),k<=n/\c= .int .i64 k/\Df.side n es s k=some (W,B)/\eI w0 wr p Q gp gb (.pointer qa) ⟨a1,a2,a3,a4,k1,k2,k3,k4⟩ s n v P B W) (fun c _=>n-(intOf c).toNat)
 case atStart=>exact⟨0,[],List.replicate n 0,_,ab6 _,rfl,rfl,XJ.out⟩
 case round=>
  obtain⟨k,W,B,v,hk,rfl,aQ,hs⟩:=hrel;obtain⟨hrg,Zn,hBl⟩:=Df.tG HO.out hk aQ;have c1:=hs.rd.c1;have c0:=hs.rd.c0;have c3:=hs.rd.c3;dsimp only at c1 c3;rw[l1] at c1;rw[l3] at c3;by_cases hlt:k<n
  .have kR:(k:Int)<(n:Int):=by omega
   have hk0:(0:Int)<=(k:Int):=by omega
   have YW:=(HO.out k hlt).1;obtain⟨b3,o3,e3,d3⟩:=dm (HF.out.later hs.rd.aZ).l3 (i:=k) (by omega);dsimp only at e3;subst e3;obtain⟨x,hx⟩:∃x,s.ord.getD k (-1)=x:=⟨_,rfl⟩;have mK:Df.at_ s.ord k=x:=hx;rw[hx] at d3;rw[mK] at YW;obtain⟨y,rfl⟩:∃y:Nat,x=(y:Int):=⟨x.toNat,by omega⟩;have y0:(0:Int)<=(y:Int):=by omega
   have y1:(y:Int)<(n:Int):=by omega
   obtain⟨b1,o1,e1,d1⟩:=dm (HF.out.later hs.rd.aZ).l1 (i:=y) (by omega);dsimp only at e1;subst e1;obtain⟨z,hz⟩:∃z,s.par.getD y (-1)=z:=⟨_,rfl⟩;rw[hz] at d1;obtain⟨u,hu⟩:∃u,Cs.I3 es z=u:=⟨_,rfl⟩;have dV:Df.up es s (Df.at_ s.ord k)=u:=by
    rw[mK];unfold Df.up;rw[ach];have:Df.at_ s.par y=z:=hz;rw[this,hu]
   have lA:Hid (∀V,Below wr.heap.size wr V->Calls prog 42 #[.pointer qa,.int .i64 z] V fun r V'=>r= .returned (.int .i64 u)/\V'=V):=fun V hV=>by
    have:=j7 (.pointer qa) n es z V (cP.out.later (hs.later hV).rd.aZ);rw[hu] at this;exact this
   have Z6:Hid (∀V,Below wr.heap.size wr V->Calls prog 125 #[.pointer (some ⟨p,0,none⟩),.pointer (some ⟨Q,0,none⟩),.int .i64 u,.int .i64 (k:Int)] V (EM w0 p Q gp gb (.pointer qa) ⟨some ⟨b1,o1,none⟩,a2,some ⟨b3,o3,none⟩,a4,k1,k2,k3,k4⟩ s n P (Df.leave u k W B))):=fun V hV=>Dz u k (hs.later hV) hBl hrg (by omega)
   have vU:Df.side n es s (k+1)=if u≠-1/\(Df.leave u k W B).1=[] then none else some ((y:Int)::(Df.leave u k W B).1,(Df.leave u k W B).2):=by
    conv=>lhs;unfold Df.side
    rw[aQ,adU];dsimp only;rw[dV,mK]
   have Lp:(Df.leave u k W B).1.length<=k:=by
    obtain⟨X,hX,_,_⟩:=Df.om (p:=u) (i:=(k:Int)) W B;have:=congrArg List.length hX;rw[abZ] at this;omega
   obtain⟨T,hT⟩:∃T,Df.leave u k W B=T:=⟨_,rfl⟩;rw[hT] at Z6 vU Lp;have mW:=ζ vU;clear hT vU dV hu hz hx mK YW hrg Zn hBl aQ hs c3;go_wp2_with fail;go_quiet ((go_at_call 42;exact aem (lA.out _ (below_drewN (aae _ _) _))));go_wp2_with (go_at_call 125;refine(Z6.out _ (below_drewN (aae _ _) _)).mono ?_;rintro e w5 ⟨rfl,v5,h5⟩;refine abQ ?_);refine ζ ?_;have hem:=oD Q 0 _ _ _ _ _ w5 h5.st;have DW:=(zK Q 0 _ _ _ _ T.1.reverse (y:Int) w5 h5.st h5.rd.aZ.size (by rw[acD];omega)).mono (R':=fun e w'=>e= .returned (.tuple #[])/\∃v',eI w0 w' p Q gp gb (.pointer qa) ⟨some ⟨b1,o1,none⟩,a2,some ⟨b3,o3,none⟩,a4,k1,k2,k3,k4⟩ s n v' P T.2 ((y:Int)::T.1)) (fun e w' hp=>⟨hp.1,h5.pushed hp⟩);have Fy:=ζ DW;have zj:=ζ h5.rd.aZ;by_cases hu1:u= -1
   .have t1:(u != -1)=false:=by simp[hu1]
    have kD:=ζ (mW.out.trans (if_neg (fun h=>h.1 hu1)));clear hem DW h5 hu1;go_wp2_with (go_at_call 64;refine Fy.out.mono ?_;rintro e w6 ⟨rfl,v6,h6⟩;have H6:=ζ h6;clear h6);go_roundw
    case rel=>exact⟨k+1,_,_,v6,by omega,by go_num,kD.out,H6.out⟩
    case measure=>simp[intOf];omega
   .have t1:(u != -1)=true:=by simp[hu1]
    by_cases hTe:T.1=[]
    .have hd:decide (T.1.reverse.length=0)=true:=by simp[hTe]
     rw[hd] at hem;have jA:=ζ hem;have kD:Hid (Df.side n es s n=none):=by
      have e1:Df.side n es s (k+1)=none:=by rw[mW.out,if_pos ⟨hu1,hTe⟩]
      have:=Df.CU e1 (n-(k+1));rw[show k+1+(n-(k+1))=n by omega] at this;exact this
     clear hem DW h5 hu1 hTe hd;go_wp2_with (go_at_call 62;refine jA.out.mono ?_;rintro e w6 ⟨rfl,hw6⟩;obtain rfl:=hw6.symm);go_ret;exact .inr ⟨rfl,kD.out,zj.out⟩
    .have hd:decide (T.1.reverse.length=0)=false:=by simp[hTe]
     rw[hd] at hem;have jA:=ζ hem;have kD:=ζ (mW.out.trans (if_neg (fun h=>hTe h.2)));clear hem DW h5 hu1 hTe hd;go_wp2_with (first|(go_at_call 62;refine jA.out.mono ?_;rintro e w6 ⟨rfl,hw6⟩;obtain rfl:=hw6.symm)|(go_at_call 64;refine Fy.out.mono ?_;rintro e w6 ⟨rfl,v6,h6⟩;have H6:=ζ h6;clear h6));go_roundw
     case rel=>exact⟨k+1,_,_,v6,by omega,by go_num,kD.out,H6.out⟩
     case measure=>simp[intOf];omega
  .have hd:¬((k:Int)<(n:Int)):=by omega
   obtain rfl:k=n:=by omega
   have Z6:=ζ (Dz (-1) (k:Int) hs hBl hrg (by omega));have Pa:=ζ aQ;have HTE:Hid ((Df.leave (-1) (k:Int) W B).2=Df.ends k W B):=rfl;clear hs aQ hrg hBl Zn;go_wp2_with (go_at_call 125;refine Z6.out.mono ?_;rintro e w5 ⟨rfl,v5,h5⟩;have H5:=ζ h5;clear h5);go_ret;exact .inl ⟨gb,W,B,rfl,Pa.out,H5.out.rd,H5.out.ip,H5.out.ib⟩
end
end
section
open Go.Proofs.Tryz
open Go.RowKit
structure Full (w0 w:World) (p gp gb:Nat) (av:Value) (f:For) (s:Df.St) (n:Nat) (P E:List Int):Prop where
 rd:aO w0 w p av f s (.slice (some ⟨gp,0,none⟩) n n) (.slice (some ⟨gb,0,none⟩) n n)
 ip:af w gp P
 ib:af w gb E
 lp:P.length=n
 le:E.length=n
section
variable {w0 w:World} {p gp gb:Nat} {av:Value} {f:For} {s:Df.St} {n:Nat} {es:List (Int×Int)} {P E:List Int}
theorem Full.later {w':World} (h:Full w0 w p gp gb av f s n P E) (hb:Below w.heap.size w w'):Full w0 w' p gp gb av f s n P E:=⟨h.rd.later hb,h.ip.later hb,h.ib.later hb,h.lp,h.le⟩
theorem J5 (u v:Nat) (h:Full w0 w p gp gb av f s n P E) (hu:u<n) (hv:v<n):
 Calls prog 126 #[.pointer (some ⟨p,0,none⟩),.int .i64 (u:Int),.int .i64 (v:Int)] w (ku (Df.at_ P u<=Df.at_ P v/\Df.at_ P v<Df.at_ E u) w):=by
 have c5:=h.rd.c5;have c6:=h.rd.c6;have d1:=h.ip.cell (gF (-1) (by rw[h.lp];exact hu:u<P.length));have d2:=h.ip.cell (gF (-1) (by rw[h.lp];exact hv:v<P.length));have d3:=h.ib.cell (gF (-1) (by rw[h.le];exact hu:u<E.length));obtain⟨x,hx⟩:∃x,P.getD u (-1)=x:=⟨_,rfl⟩;obtain⟨y,hy⟩:∃y,P.getD v (-1)=y:=⟨_,rfl⟩;obtain⟨z,hz⟩:∃z,E.getD u (-1)=z:=⟨_,rfl⟩;rw[hx] at d1;rw[hy] at d2;rw[hz] at d3;have HQ:Hid ((Df.at_ P u<=Df.at_ P v/\Df.at_ P v<Df.at_ E u)↔(x<=y/\y<z)):=by
  show(P.getD u (-1)<=P.getD v (-1)/\P.getD v (-1)<E.getD u (-1))↔_;rw[hx,hy,hz]
 have u0:(0:Int)<=(u:Int):=by omega
 have u1:(u:Int)<(n:Int):=by omega
 have v0:(0:Int)<=(v:Int):=by omega
 have v1:(v:Int)<(n:Int):=by omega
 by_cases hxy:x<=y
 .by_cases hyz:y<z
  .have HR:=ζ (And.intro hxy hyz)
   clear h hx hy hz;go_enter func126,ntmps126;go_wp2_with fail;go_quiet (fail);go_wp2;go_ret;exact⟨true,rfl,by rw[HQ.out];exact⟨fun _=>HR.out,fun _=>rfl⟩,below_drewN (aae _ _) _⟩
  .have hd:decide (y<z)=false:=by simp only[decide_eq_false_iff_not];exact hyz
   have HR:=ζ hyz;clear h hx hy hz hyz;go_enter func126,ntmps126;go_wp2_with fail;go_quiet (fail);go_wp2;go_ret;exact⟨false,rfl,by rw[HQ.out];exact⟨fun h=>(by cases h),fun h=>(by have h1:=HR.out;have h2:=h.2;omega)⟩,below_drewN (aae _ _) _⟩
 .have hd:decide (x<=y)=false:=by simp only[decide_eq_false_iff_not];exact hxy
  have HR:=ζ hxy;clear h hx hy hz hxy;go_enter func126,ntmps126;go_wp2_with fail;go_quiet (fail);go_wp2;go_ret;exact⟨false,rfl,by rw[HQ.out];exact⟨fun h=>(by cases h),fun h=>(by have h1:=HR.out;have h2:=h.1;omega)⟩,below_drewN (aae _ _) _⟩
end

end
section
open Go.Proofs.Tryz
open Go.RowKit
section
variable {w0 w:World} {p gp gb:Nat} {av:Value} {f:For} {s:Df.St} {n:Nat} {es:List (Int×Int)} {P E:List Int}
theorem sM (aV:bK w0 av n es) (hF:mV w0 f s) (hL:Df.wG n es s) (h:Full w0 w p gp gb av f s n P E)
 (hab:∀u v,u<n->v<n->((Df.at_ P u<=Df.at_ P v/\Df.at_ P v<Df.at_ E u)↔Df.bP es s u v)):
 Calls prog 117 #[.pointer (some ⟨p,0,none⟩)] w (ku (∀e,e<es.length->Df.uG es s e) w):=by
 obtain⟨yD,lZ⟩:=aV.bounds;obtain⟨l1,l2,l3,l4⟩:=hL;obtain⟨a1,a2,a3,a4,k1,k2,k3,k4⟩:=f;have kT:∃q,av= .pointer q:=by
  rcases aV with ⟨h,_⟩|⟨_,p,h,_⟩
  .exact⟨_,h⟩
  .exact⟨_,h⟩
 obtain⟨qa,rfl⟩:=kT;have c4:=h.rd.c4;dsimp only at c4;rw[l4] at c4;obtain⟨m,hm⟩:∃m,es.length=m:=⟨_,rfl⟩;rw[hm] at c4 lZ l4;have HH:=ζ h;have cP:=ζ aV;have HF:=ζ hF;have HAB:=ζ hab;have HM:=ζ hm;rw[hm];clear aV hF h hab hm;go_enter func117,ntmps117;go_wp2_with fail;go_loopw [13] (fun c wr=>∃k:Nat,k<=m/\c= .int .i64 k/\(∀e,e<k->Df.uG es s e)/\Below w.heap.size w wr) (fun c _=>m-(intOf c).toNat)
 case atStart=>exact⟨0,ab6 _,rfl,fun e he=>absurd he (Nat.not_lt_zero _),aae _ _⟩
 case round=>
  obtain⟨k,hk,rfl,hdone,iQ⟩:=hrel;have hf:=HH.out.later iQ;have HDN:=ζ hdone;have fP:=ζ iQ;by_cases hlt:k<m
  .have kR:(k:Int)<(m:Int):=by omega
   have hk0:(0:Int)<=(k:Int):=by omega
   obtain⟨b4,o4,e4,d4⟩:=dm (HF.out.later hf.rd.aZ).l4 (i:=k) (by omega);dsimp only at e4;subst e4;obtain⟨x,hx⟩:∃x,s.aT.getD k (-1)=x:=⟨_,rfl⟩;rw[hx] at d4;have HX:Hid (Df.at_ s.aT k=x):=hx;have hmw:IntKind.i64.wrap (2*(k:Int))=2*(k:Int):=by rw[acf];omega
   have ant:IntKind.i64.wrap (2*(k:Int)+1)=2*(k:Int)+1:=by rw[acf];omega
   by_cases Oj:x=2*(k:Int)\/x=2*(k:Int)+1
   .obtain⟨j,rfl⟩:∃j:Nat,x=(j:Int):=⟨x.toNat,by omega⟩
    have hj:j=2*k\/j=2*k+1:=by omega
    have hjl:j<2*es.length:=by rw[HM.out];omega
    have hval:=cP.out.val hjl;obtain⟨hfl,DR⟩:=Cs.bI hval hjl;have lA:Hid (∀V,Below wr.heap.size wr V->Calls prog 42 #[.pointer qa,.int .i64 (j:Int)] V fun r V'=>r= .returned (.int .i64 (Cs.fr es j:Int))/\V'=V):=by
     intro V hV;have:=j7 (.pointer qa) n es j V (cP.out.later (hf.later hV).rd.aZ);rw[Cs.jQ hjl] at this;exact this
    have pF:Hid (∀V,Below wr.heap.size wr V->Calls prog 44 #[.pointer qa,.int .i64 (j:Int)] V fun r V'=>r= .returned (.int .i64 (Cs.to es j:Int))/\V'=V):=by
     intro V hV;have:=jO (.pointer qa) n es j V (cP.out.later (hf.later hV).rd.aZ);rw[Cs.toI_in hjl] at this;exact this
    obtain⟨a,ha⟩:∃a,Cs.fr es j=a:=⟨_,rfl⟩;obtain⟨b,hb⟩:∃b,Cs.to es j=b:=⟨_,rfl⟩;rw[ha] at hfl lA;rw[hb] at DR pF;have hHB:=HAB.out b a DR hfl;obtain⟨b1,o1,e1,d1⟩:=dm (HF.out.later hf.rd.aZ).l1 (i:=b) (by omega);dsimp only at e1;subst e1;obtain⟨y,hy⟩:∃y,s.par.getD b (-1)=y:=⟨_,rfl⟩;rw[hy] at d1;have HE:Hid (Df.uG es s k↔(y=(j:Int)\/Df.bP es s b a)):=by
     constructor
     .rintro⟨h,h1,h2,h3⟩
      obtain rfl:h=j:=by rw[HX.out] at h2;omega
      rw[ha,hb] at h3;have:Df.at_ s.par b=y:=hy;rw[this] at h3;exact h3
     .intro h3
      refine⟨j,hj,HX.out,?_⟩;rw[ha,hb];have:Df.at_ s.par b=y:=hy;rw[this];exact h3
    have hc1:=hf.rd.c1;have hc0:=hf.rd.c0;dsimp only at hc1;rw[l1] at hc1;have HCS:Hid (∀W k,W=wr.drewN k->W.cell? ⟨p,1,none⟩=some (.slice (some ⟨b1,o1,none⟩) n k1)/\W.cell? ⟨b1,o1+b,none⟩=some (.int .i64 y)/\Below wr.heap.size wr W):=fun W k hW=>by subst hW;exact⟨hc1,d1,below_drewN (aae _ _) _⟩
    have HAV:Hid (∀V,Below wr.heap.size wr V->Calls prog 126 #[.pointer (some ⟨p,0,none⟩),.int .i64 (b:Int),.int .i64 (a:Int)] V (ku (Df.bP es s b a) V)):=fun V hV=>by
     have:=J5 b a (hf.later hV) DR hfl;rw[hHB] at this;exact this
    have hb0:(0:Int)<=(b:Int):=by omega
    have hb1:(b:Int)<(n:Int):=by omega
    have HYJ:Hid (y=(j:Int)\/y≠(j:Int)):=Classical.em _;have Ju:Hid (Df.uG es s k->∀e,e<k+1->Df.uG es s e):=fun h e he=>by
     by_cases zZ:e<k
     .exact HDN.out e zZ
     .obtain rfl:e=k:=by omega
      exact h
    have tg:((j:Int) != 2*(k:Int))=false\/(((j:Int) != 2*(k:Int))=true/\((j:Int) != 2*(k:Int)+1)=false):=by
     rcases hj with hj|hj
     .left;simp;omega
     .right;constructor
      .simp;omega
      .simp;omega
    clear hf hval hjl ha hb hx hy hHB hfl DR hc1 d1 Oj hj hdone iQ;rcases tg with tg|⟨tg,tg1⟩
    all_goals
     go_wp2_with fail
     go_quiet ((first
      |(go_at_call 42;exact aem (lA.out _ (below_drewN (aae _ _) _)))
      |(go_at_call 44;exact aem (pF.out _ (below_drewN (aae _ _) _)))))
     obtain⟨W,hW⟩:∃W,W=wr.drewN nq:=⟨_,rfl⟩;rw[<-hW];obtain⟨z1,z2,dJ⟩:=HCS.out W nq hW;have oM:=ζ dJ;clear hW dJ;rcases HYJ.out with NX|NX
     .have t1:(y != (j:Int))=false:=by simp[NX]
      have HY:=ζ NX;clear NX;go_wp2;go_roundw
      case rel=>exact⟨k+1,by omega,by go_num,Ju.out (HE.out.2 (.inl HY.out)),fP.out.trans (oM.out.mono fP.out.size)⟩
      case measure=>simp[intOf];omega
     .have t1:(y != (j:Int))=true:=by simp[NX]
      have HY:=ζ NX;clear NX;go_wp2_with (go_at_call 126;refine(HAV.out _ oM.out).mono ?_;rintro e w6 ⟨bb,rfl,rV,eC⟩;have oN:=ζ eC;have HBB:=ζ rV;clear eC rV;cases bb)
      .go_ret
       exact⟨false,rfl,⟨fun h=>(by cases h),fun h=>(by
        rcases HE.out.1 (h k hlt) with h1|h1
        .exact absurd h1 HY.out
        .exact HBB.out.2 h1)⟩,(fP.out.trans (oM.out.mono fP.out.size)).trans (oN.out.mono (acA fP.out.size oM.out.size))⟩
      .go_roundw
       case rel=>exact⟨k+1,by omega,by go_num,Ju.out (HE.out.2 (.inr (HBB.out.1 (by trivial)))),(fP.out.trans (oM.out.mono fP.out.size)).trans (oN.out.mono (acA fP.out.size oM.out.size))⟩
       case measure=>simp[intOf];omega
   .have t1:(x != 2*(k:Int))=true:=by simp;omega
    have t2:(x != 2*(k:Int)+1)=true:=by simp;omega
    have HG:Hid (¬Df.uG es s k):=by
     rintro⟨h,h1,h2,_⟩;rw[HX.out] at h2;exact Oj (by omega)
    clear Oj hf hx hdone iQ;go_wp2;go_ret;exact⟨false,rfl,⟨fun h=>(by cases h),fun h=>absurd (h k hlt) HG.out⟩,fP.out⟩
  .have hd:¬((k:Int)<(m:Int)):=by omega
   obtain rfl:k=m:=by omega
   clear hf hdone iQ;go_wp2;go_ret;exact⟨true,rfl,⟨fun _=>HDN.out,fun _=>rfl⟩,fP.out⟩
end

end
section
open Go.Proofs.Tryz
open Go.RowKit
def yV (n:Int) (es:List (Int×Int)) (f:For) (s:Df.St) (w:World) (r:Option Addr) (w':World):Prop:=
 ∃(m p gp gb:Nat) (av:Value) (P E:List Int) (w0:World),n=(m:Int)/\Si.Val m es/\Df.VF m es s/\r=some ⟨p,0,none⟩/\bK w0 av m es/\Full w0 w' p gp gb av f s m P E/\(∀u v,u<m->v<m->((Df.at_ P u<=Df.at_ P v/\Df.at_ P v<Df.at_ E u)↔Df.bP es s u v))/\Below w.heap.size w w'
def O4 (n:Int) (es:List (Int×Int)) (f:For) (s:Df.St) (w:World) (e:Ending) (w':World):Prop:=
 (∃r,e= .returned (.tuple #[.pointer r,.bool true])/\yV n es f s w r w')\/(∃r,e= .returned (.tuple #[.pointer r,.bool false])/\¬uA n es s/\Below w.heap.size w w')
theorem RH (n:Int) (ao:Option Addr) (cap:Nat) (es:List (Int×Int)) (f:For) (s:Df.St) (w:World) (he:aN w ao es) (hl:es.length<=4611686018427387904) (hF:mV w f s):
 Calls prog 98 #[cH n ao es.length cap,f.val s] w (O4 n es f s w):=by
 obtain⟨a1,a2,a3,a4,c1,c2,c3,c4⟩:=f;obtain⟨W,hW⟩:∃W,W=(w.alloc (.cells #[.int .i64 n,.slice ao es.length cap] 24)).alloc (.cells #[.slice a1 s.par.length c1,.slice a2 s.ay.length c2,.slice a3 s.ord.length c3,.slice a4 s.aT.length c4] 79):=⟨_,rfl⟩;have hB0:Below w.heap.size w W:=by rw[hW];exact((aae _ _).alloc (aad _) _).alloc (by simp) _
 have hsz:W.heap.size=w.heap.size+2:=by rw[hW];simp
 have g1:W.heap[w.heap.size]? =some (.cells #[.int .i64 n,.slice ao es.length cap] 24 (0,0)):=by
  rw[hW,ab2 _ _ _ (by simp)];exact heap_alloc_new w _
 have g2:W.heap[w.heap.size+1]? =some (.cells #[.slice a1 s.par.length c1,.slice a2 s.ay.length c2,.slice a3 s.ord.length c3,.slice a4 s.aT.length c4] 79 (0,0)):=by
  rw[hW];exact alloc_at (by simp)
 have hnew:=qT n ao cap es W (he.later hB0) hl;unfold cH at hnew ⊢;unfold For.val;dsimp only;have HF:=ζ (hF.later hB0);have fo:=ζ hB0;have jG:=ζ g2;obtain⟨x0,x1,-⟩:=aj g1;have qg:=ζ hW;rw[hW] at x0 x1;cases hv:Si.valid n es with
 |false=>
  have ko:Hid (Calls prog 13 #[.agg #[.int .i64 n,.slice ao es.length cap]] W fun e w'=>e= .returned (.tuple #[.pointer none,.int .i64 1])/\Below W.heap.size W w'):=hnew.mono (by
   rintro e w' ⟨⟨m,q,rfl,hval,_⟩|⟨_,h⟩,hb⟩
   .rw[Si.bQ.2 hval] at hv;cases hv
   .exact⟨h,hb⟩)
  have lg:Hid (¬uA n es s):=by
   rintro⟨m,rfl,hval,_⟩;rw[Si.bQ.2 hval] at hv;cases hv
  clear hnew hB0 g1 g2 he hW hv hF;go_enter func98,ntmps98;go_wp2_with (go_at_call 13;rw[<-qg.out];refine ko.out.mono ?_;rintro e w1 ⟨rfl,hb1⟩;have aY:=ζ hb1;clear hb1);go_ret2;exact .inr ⟨none,rfl,lg.out,fo.out.trans (aY.out.mono fo.out.size)⟩
 |true=>
  obtain⟨m,rfl⟩:∃m:Nat,n=(m:Int):=⟨n.toNat,by have:=(Si.bQ.1 hv).lo;omega⟩;have hval:=Si.bQ.1 hv;have ko:Hid (Calls prog 13 #[.agg #[.int .i64 (m:Int),.slice ao es.length cap]] W fun e w'=>∃q,e= .returned (.tuple #[.pointer (some ⟨q,0,none⟩),.int .i64 0])/\nk w' W.heap.size q m es/\Below W.heap.size W w'):=hnew.mono (by
   rintro e w' ⟨⟨m',q,hm,_,h,ha⟩|⟨h,_⟩,hb⟩
   .obtain rfl:m=m':=by omega
    exact⟨q,h,ha,hb⟩
   .rw[hv] at h;cases h)
  have oJ:=ζ hval;have lg:Hid (¬Df.VF m es s->¬uA (m:Int) es s):=by
   rintro h ⟨m',hm,_,IB⟩;obtain rfl:m=m':=by omega
   exact h IB
  clear hnew hB0 g1 g2 he hW hv hval hF;go_enter func98,ntmps98;go_wp2_with (go_at_call 13;rw[<-qg.out];refine ko.out.mono ?_;rintro e w1 ⟨q,rfl,aV,hb1⟩;refine abQ ?_);refine ζ ?_;have hk2:=(hb1.block _ (by omega)).trans jG.out;have aY:=ζ (fo.out.trans (hb1.mono fo.out.size));have hs1:=hb1.size;have kT:bK w1 (.pointer (some ⟨q,0,none⟩)) m es:= .inr ⟨_,q,rfl,oJ.out,aV⟩;have cP:=ζ kT;have qi:=ζ (HF.out.later hb1);obtain⟨k0,k1,k2,k3,kf⟩:=ah hk2;obtain⟨V,hV⟩:∃V,V=w1.alloc (.cells (PS (.pointer (some ⟨q,0,none⟩)) ⟨a1,a2,a3,a4,c1,c2,c3,c4⟩ s (.slice none 0 0) (.slice none 0 0)) 166):=⟨_,rfl⟩;have hR:aO w1 V w1.heap.size (.pointer (some ⟨q,0,none⟩)) ⟨a1,a2,a3,a4,c1,c2,c3,c4⟩ s (.slice none 0 0) (.slice none 0 0):=by
   refine⟨?_,?_,aad _⟩
   .rw[hV];exact(aae _ _).alloc (aad _) _
   .rw[hV];exact heap_alloc_new w1 _
  have HR:=ζ hR;have HV:=ζ hV;have BX:Hid (∀V',Below w1.heap.size w1 V'->Below w.heap.size w V'):=fun V' h=>aY.out.trans (h.mono aY.out.size)
  clear x0 x1 hb1 aV kT hk2 hR hV;by_cases hL:Df.wG m es s
  .by_cases hO:Df.jk m s m
   .by_cases hH:Df.EO m es s
    .by_cases hS:∃r,Df.side m es s m=some r
     .by_cases hE:∀e,e<es.length->Df.uG es s e
      .have HLEN:Hid (Calls prog 113 #[.pointer (some ⟨w1.heap.size,0,none⟩)] V fun e w'=>e= .returned (.bool true)/\Below V.heap.size V w'):=(jw cP.out HR.out).mono (by rintro e w' ⟨b,rfl,hb,hbl⟩;rw[hb.2 hL];exact⟨rfl,hbl⟩)
       have ze:Hid (∀V',aO w1 V' w1.heap.size (.pointer (some ⟨q,0,none⟩)) ⟨a1,a2,a3,a4,c1,c2,c3,c4⟩ s (.slice none 0 0) (.slice none 0 0)->Calls prog 114 #[.pointer (some ⟨w1.heap.size,0,none⟩)] V' fun e w'=>∃gp P,e= .returned (.bool true)/\aO w1 w' w1.heap.size (.pointer (some ⟨q,0,none⟩)) ⟨a1,a2,a3,a4,c1,c2,c3,c4⟩ s (.slice (some ⟨gp,0,none⟩) m m) (.slice none 0 0)/\af w' gp P/\Df.jM m s P/\gp≠w1.heap.size/\w1.heap.size<=gp):=fun V' hr=>(jL cP.out qi.out hL hr).mono (by rintro e w' (⟨gp,P,h1,h2,h3⟩|⟨_,h,_⟩);exact⟨gp,P,h1,h3⟩;exact absurd hO h)
       have EU:Hid (∀V' gp,aO w1 V' w1.heap.size (.pointer (some ⟨q,0,none⟩)) ⟨a1,a2,a3,a4,c1,c2,c3,c4⟩ s (.slice (some ⟨gp,0,none⟩) m m) (.slice none 0 0)->Calls prog 115 #[.pointer (some ⟨w1.heap.size,0,none⟩)] V' fun e w'=>e= .returned (.bool true)/\Below V'.heap.size V' w'):=fun V' gp hr=>(iO cP.out qi.out hL hr).mono (by rintro e w' ⟨b,rfl,hb,hbl⟩;rw[hb.2 hH];exact⟨rfl,hbl⟩)
       have Mg:Hid (∀V' gp P,aO w1 V' w1.heap.size (.pointer (some ⟨q,0,none⟩)) ⟨a1,a2,a3,a4,c1,c2,c3,c4⟩ s (.slice (some ⟨gp,0,none⟩) m m) (.slice none 0 0)->af V' gp P->Df.jM m s P->gp≠w1.heap.size->w1.heap.size<=gp->Calls prog 116 #[.pointer (some ⟨w1.heap.size,0,none⟩)] V' fun e w'=>∃gb E,e= .returned (.bool true)/\Full w1 w' w1.heap.size gp gb (.pointer (some ⟨q,0,none⟩)) ⟨a1,a2,a3,a4,c1,c2,c3,c4⟩ s m P E/\(∀u v,u<m->v<m->((Df.at_ P u<=Df.at_ P v/\Df.at_ P v<Df.at_ E u)↔Df.bP es s u v))):=fun V' gp P hr hi hp h1 h2=>(m9 cP.out qi.out hL hO hr hi h1 h2).mono (by rintro e w' (⟨gb,Wy,B,g1,g2,g3,g4,g5⟩|⟨_,h,_⟩);exact⟨gb,_,g1,⟨g3,g4,g5,hp.1,by unfold Df.ends;rw[Df.rN];exact(Df.tG hO (aad _) g2).2.2⟩,fun u v hu hv=>Df.xH hO g2 hp hu hv⟩;obtain⟨r,hr⟩:=hS;rw[h] at hr;cases hr)
       have XZ:Hid (∀V' gp gb P E,Full w1 V' w1.heap.size gp gb (.pointer (some ⟨q,0,none⟩)) ⟨a1,a2,a3,a4,c1,c2,c3,c4⟩ s m P E->(∀u v,u<m->v<m->((Df.at_ P u<=Df.at_ P v/\Df.at_ P v<Df.at_ E u)↔Df.bP es s u v))->Calls prog 117 #[.pointer (some ⟨w1.heap.size,0,none⟩)] V' fun e w'=>e= .returned (.bool true)/\Below V'.heap.size V' w'):=fun V' gp gb P E hf ha=>(sM cP.out qi.out hL hf ha).mono (by rintro e w' ⟨b,rfl,hb,hbl⟩;rw[hb.2 hE];exact⟨rfl,hbl⟩)
       have Mf:Hid (Df.VF m es s):=⟨hL,hO,hH,hS,hE⟩;clear hL hO hH hS hE;go_wp2_with (first|(go_at_call 113;rw[<-HV.out];refine HLEN.out.mono ?_;rintro e w3 ⟨rfl,hb3⟩;have H3:=ζ (HR.out.later hb3);clear hb3)|(go_at_call 114;refine(ze.out _ H3.out).mono ?_;rintro e w4 ⟨gp,P,rfl,r4,i4,p4,n4,g4⟩;have R4:=ζ r4;have I4:=ζ i4;have P4:=ζ p4;have N4:=ζ n4;have G4:=ζ g4;clear r4 i4 p4 n4 g4)|(go_at_call 115;refine(EU.out _ _ R4.out).mono ?_;rintro e w5 ⟨rfl,hb5⟩;have R5:=ζ (R4.out.later hb5);have I5:=ζ (I4.out.later hb5);clear hb5)|(go_at_call 116;refine(Mg.out _ _ _ R5.out I5.out P4.out N4.out G4.out).mono ?_;rintro e w6 ⟨gb,E,rfl,f6,Xh⟩;have F6:=ζ f6;have AB6:=ζ Xh;clear f6 Xh)|(go_at_call 117;refine(XZ.out _ _ _ _ _ F6.out AB6.out).mono ?_;rintro e w7 ⟨rfl,mQ⟩;have F7:=ζ (F6.out.later mQ);clear mQ));go_ret2;exact .inl ⟨_,rfl,m,w1.heap.size,_,_,_,_,_,w1,rfl,oJ.out,Mf.out,rfl,cP.out,F7.out,AB6.out,BX.out _ F7.out.rd.aZ⟩
      .have HLEN:Hid (Calls prog 113 #[.pointer (some ⟨w1.heap.size,0,none⟩)] V fun e w'=>e= .returned (.bool true)/\Below V.heap.size V w'):=(jw cP.out HR.out).mono (by rintro e w' ⟨b,rfl,hb,hbl⟩;rw[hb.2 hL];exact⟨rfl,hbl⟩)
       have ze:Hid (∀V',aO w1 V' w1.heap.size (.pointer (some ⟨q,0,none⟩)) ⟨a1,a2,a3,a4,c1,c2,c3,c4⟩ s (.slice none 0 0) (.slice none 0 0)->Calls prog 114 #[.pointer (some ⟨w1.heap.size,0,none⟩)] V' fun e w'=>∃gp P,e= .returned (.bool true)/\aO w1 w' w1.heap.size (.pointer (some ⟨q,0,none⟩)) ⟨a1,a2,a3,a4,c1,c2,c3,c4⟩ s (.slice (some ⟨gp,0,none⟩) m m) (.slice none 0 0)/\af w' gp P/\Df.jM m s P/\gp≠w1.heap.size/\w1.heap.size<=gp):=fun V' hr=>(jL cP.out qi.out hL hr).mono (by rintro e w' (⟨gp,P,h1,h2,h3⟩|⟨_,h,_⟩);exact⟨gp,P,h1,h3⟩;exact absurd hO h)
       have EU:Hid (∀V' gp,aO w1 V' w1.heap.size (.pointer (some ⟨q,0,none⟩)) ⟨a1,a2,a3,a4,c1,c2,c3,c4⟩ s (.slice (some ⟨gp,0,none⟩) m m) (.slice none 0 0)->Calls prog 115 #[.pointer (some ⟨w1.heap.size,0,none⟩)] V' fun e w'=>e= .returned (.bool true)/\Below V'.heap.size V' w'):=fun V' gp hr=>(iO cP.out qi.out hL hr).mono (by rintro e w' ⟨b,rfl,hb,hbl⟩;rw[hb.2 hH];exact⟨rfl,hbl⟩)
       have Mg:Hid (∀V' gp P,aO w1 V' w1.heap.size (.pointer (some ⟨q,0,none⟩)) ⟨a1,a2,a3,a4,c1,c2,c3,c4⟩ s (.slice (some ⟨gp,0,none⟩) m m) (.slice none 0 0)->af V' gp P->Df.jM m s P->gp≠w1.heap.size->w1.heap.size<=gp->Calls prog 116 #[.pointer (some ⟨w1.heap.size,0,none⟩)] V' fun e w'=>∃gb E,e= .returned (.bool true)/\Full w1 w' w1.heap.size gp gb (.pointer (some ⟨q,0,none⟩)) ⟨a1,a2,a3,a4,c1,c2,c3,c4⟩ s m P E/\(∀u v,u<m->v<m->((Df.at_ P u<=Df.at_ P v/\Df.at_ P v<Df.at_ E u)↔Df.bP es s u v))):=fun V' gp P hr hi hp h1 h2=>(m9 cP.out qi.out hL hO hr hi h1 h2).mono (by rintro e w' (⟨gb,Wy,B,g1,g2,g3,g4,g5⟩|⟨_,h,_⟩);exact⟨gb,_,g1,⟨g3,g4,g5,hp.1,by unfold Df.ends;rw[Df.rN];exact(Df.tG hO (aad _) g2).2.2⟩,fun u v hu hv=>Df.xH hO g2 hp hu hv⟩;obtain⟨r,hr⟩:=hS;rw[h] at hr;cases hr)
       have XZ:Hid (∀V' gp gb P E,Full w1 V' w1.heap.size gp gb (.pointer (some ⟨q,0,none⟩)) ⟨a1,a2,a3,a4,c1,c2,c3,c4⟩ s m P E->(∀u v,u<m->v<m->((Df.at_ P u<=Df.at_ P v/\Df.at_ P v<Df.at_ E u)↔Df.bP es s u v))->Calls prog 117 #[.pointer (some ⟨w1.heap.size,0,none⟩)] V' fun e w'=>e= .returned (.bool false)/\Below V'.heap.size V' w'):=fun V' gp gb P E hf ha=>(sM cP.out qi.out hL hf ha).mono (by rintro e w' ⟨b,rfl,hb,hbl⟩;have:b=false:=(by cases b;rfl;exact absurd (hb.1 rfl) hE);rw[this];exact⟨rfl,hbl⟩)
       have HN:=ζ (lg.out (fun h=>hE h.uo));clear hL hO hH hS hE;go_wp2_with (first|(go_at_call 113;rw[<-HV.out];refine HLEN.out.mono ?_;rintro e w3 ⟨rfl,hb3⟩;have H3:=ζ (HR.out.later hb3);clear hb3)|(go_at_call 114;refine(ze.out _ H3.out).mono ?_;rintro e w4 ⟨gp,P,rfl,r4,i4,p4,n4,g4⟩;have R4:=ζ r4;have I4:=ζ i4;have P4:=ζ p4;have N4:=ζ n4;have G4:=ζ g4;clear r4 i4 p4 n4 g4)|(go_at_call 115;refine(EU.out _ _ R4.out).mono ?_;rintro e w5 ⟨rfl,hb5⟩;have R5:=ζ (R4.out.later hb5);have I5:=ζ (I4.out.later hb5);clear hb5)|(go_at_call 116;refine(Mg.out _ _ _ R5.out I5.out P4.out N4.out G4.out).mono ?_;rintro e w6 ⟨gb,E,rfl,f6,Xh⟩;have F6:=ζ f6;have AB6:=ζ Xh;clear f6 Xh)|(go_at_call 117;refine(XZ.out _ _ _ _ _ F6.out AB6.out).mono ?_;rintro e w7 ⟨rfl,mQ⟩;have F7:=ζ (F6.out.later mQ);clear mQ));go_ret2;exact .inr ⟨_,rfl,HN.out,BX.out _ F7.out.rd.aZ⟩
     .have HLEN:Hid (Calls prog 113 #[.pointer (some ⟨w1.heap.size,0,none⟩)] V fun e w'=>e= .returned (.bool true)/\Below V.heap.size V w'):=(jw cP.out HR.out).mono (by rintro e w' ⟨b,rfl,hb,hbl⟩;rw[hb.2 hL];exact⟨rfl,hbl⟩)
      have ze:Hid (∀V',aO w1 V' w1.heap.size (.pointer (some ⟨q,0,none⟩)) ⟨a1,a2,a3,a4,c1,c2,c3,c4⟩ s (.slice none 0 0) (.slice none 0 0)->Calls prog 114 #[.pointer (some ⟨w1.heap.size,0,none⟩)] V' fun e w'=>∃gp P,e= .returned (.bool true)/\aO w1 w' w1.heap.size (.pointer (some ⟨q,0,none⟩)) ⟨a1,a2,a3,a4,c1,c2,c3,c4⟩ s (.slice (some ⟨gp,0,none⟩) m m) (.slice none 0 0)/\af w' gp P/\Df.jM m s P/\gp≠w1.heap.size/\w1.heap.size<=gp):=fun V' hr=>(jL cP.out qi.out hL hr).mono (by rintro e w' (⟨gp,P,h1,h2,h3⟩|⟨_,h,_⟩);exact⟨gp,P,h1,h3⟩;exact absurd hO h)
      have EU:Hid (∀V' gp,aO w1 V' w1.heap.size (.pointer (some ⟨q,0,none⟩)) ⟨a1,a2,a3,a4,c1,c2,c3,c4⟩ s (.slice (some ⟨gp,0,none⟩) m m) (.slice none 0 0)->Calls prog 115 #[.pointer (some ⟨w1.heap.size,0,none⟩)] V' fun e w'=>e= .returned (.bool true)/\Below V'.heap.size V' w'):=fun V' gp hr=>(iO cP.out qi.out hL hr).mono (by rintro e w' ⟨b,rfl,hb,hbl⟩;rw[hb.2 hH];exact⟨rfl,hbl⟩)
      have Mg:Hid (∀V' gp P,aO w1 V' w1.heap.size (.pointer (some ⟨q,0,none⟩)) ⟨a1,a2,a3,a4,c1,c2,c3,c4⟩ s (.slice (some ⟨gp,0,none⟩) m m) (.slice none 0 0)->af V' gp P->Df.jM m s P->gp≠w1.heap.size->w1.heap.size<=gp->Calls prog 116 #[.pointer (some ⟨w1.heap.size,0,none⟩)] V' fun e w'=>e= .returned (.bool false)/\Below w1.heap.size w1 w'):=fun V' gp P hr hi hp h1 h2=>(m9 cP.out qi.out hL hO hr hi h1 h2).mono (by rintro e w' (⟨gb,Wy,B,g1,g2,g3,g4,g5⟩|⟨h1,_,h3⟩);exact absurd ⟨_,g2⟩ hS;exact⟨h1,h3⟩)
      have HN:=ζ (lg.out (fun h=>hS h.side));clear hL hO hH hS;go_wp2_with (first|(go_at_call 113;rw[<-HV.out];refine HLEN.out.mono ?_;rintro e w3 ⟨rfl,hb3⟩;have H3:=ζ (HR.out.later hb3);clear hb3)|(go_at_call 114;refine(ze.out _ H3.out).mono ?_;rintro e w4 ⟨gp,P,rfl,r4,i4,p4,n4,g4⟩;have R4:=ζ r4;have I4:=ζ i4;have P4:=ζ p4;have N4:=ζ n4;have G4:=ζ g4;clear r4 i4 p4 n4 g4)|(go_at_call 115;refine(EU.out _ _ R4.out).mono ?_;rintro e w5 ⟨rfl,hb5⟩;have R5:=ζ (R4.out.later hb5);have I5:=ζ (I4.out.later hb5);clear hb5)|(go_at_call 116;refine(Mg.out _ _ _ R5.out I5.out P4.out N4.out G4.out).mono ?_;rintro e w6 ⟨rfl,eC⟩;have oN:=ζ eC;clear eC));go_ret2;exact .inr ⟨_,rfl,HN.out,BX.out _ oN.out⟩
    .have HLEN:Hid (Calls prog 113 #[.pointer (some ⟨w1.heap.size,0,none⟩)] V fun e w'=>e= .returned (.bool true)/\Below V.heap.size V w'):=(jw cP.out HR.out).mono (by rintro e w' ⟨b,rfl,hb,hbl⟩;rw[hb.2 hL];exact⟨rfl,hbl⟩)
     have ze:Hid (∀V',aO w1 V' w1.heap.size (.pointer (some ⟨q,0,none⟩)) ⟨a1,a2,a3,a4,c1,c2,c3,c4⟩ s (.slice none 0 0) (.slice none 0 0)->Calls prog 114 #[.pointer (some ⟨w1.heap.size,0,none⟩)] V' fun e w'=>∃gp P,e= .returned (.bool true)/\aO w1 w' w1.heap.size (.pointer (some ⟨q,0,none⟩)) ⟨a1,a2,a3,a4,c1,c2,c3,c4⟩ s (.slice (some ⟨gp,0,none⟩) m m) (.slice none 0 0)/\af w' gp P/\Df.jM m s P/\gp≠w1.heap.size/\w1.heap.size<=gp):=fun V' hr=>(jL cP.out qi.out hL hr).mono (by rintro e w' (⟨gp,P,h1,h2,h3⟩|⟨_,h,_⟩);exact⟨gp,P,h1,h3⟩;exact absurd hO h)
     have EU:Hid (∀V' gp,aO w1 V' w1.heap.size (.pointer (some ⟨q,0,none⟩)) ⟨a1,a2,a3,a4,c1,c2,c3,c4⟩ s (.slice (some ⟨gp,0,none⟩) m m) (.slice none 0 0)->Calls prog 115 #[.pointer (some ⟨w1.heap.size,0,none⟩)] V' fun e w'=>e= .returned (.bool false)/\Below V'.heap.size V' w'):=fun V' gp hr=>(iO cP.out qi.out hL hr).mono (by rintro e w' ⟨b,rfl,hb,hbl⟩;have:b=false:=(by cases b;rfl;exact absurd (hb.1 rfl) hH);rw[this];exact⟨rfl,hbl⟩)
     have HN:=ζ (lg.out (fun h=>hH h.hang));clear hL hO hH;go_wp2_with (first|(go_at_call 113;rw[<-HV.out];refine HLEN.out.mono ?_;rintro e w3 ⟨rfl,hb3⟩;have H3:=ζ (HR.out.later hb3);clear hb3)|(go_at_call 114;refine(ze.out _ H3.out).mono ?_;rintro e w4 ⟨gp,P,rfl,r4,i4,p4,n4,g4⟩;have R4:=ζ r4;have I4:=ζ i4;have P4:=ζ p4;have N4:=ζ n4;have G4:=ζ g4;clear r4 i4 p4 n4 g4)|(go_at_call 115;refine(EU.out _ _ R4.out).mono ?_;rintro e w5 ⟨rfl,hb5⟩;have R5:=ζ (R4.out.later hb5);have I5:=ζ (I4.out.later hb5);clear hb5));go_ret2;exact .inr ⟨_,rfl,HN.out,BX.out _ R5.out.aZ⟩
   .have HLEN:Hid (Calls prog 113 #[.pointer (some ⟨w1.heap.size,0,none⟩)] V fun e w'=>e= .returned (.bool true)/\Below V.heap.size V w'):=(jw cP.out HR.out).mono (by rintro e w' ⟨b,rfl,hb,hbl⟩;rw[hb.2 hL];exact⟨rfl,hbl⟩)
    have ze:Hid (∀V',aO w1 V' w1.heap.size (.pointer (some ⟨q,0,none⟩)) ⟨a1,a2,a3,a4,c1,c2,c3,c4⟩ s (.slice none 0 0) (.slice none 0 0)->Calls prog 114 #[.pointer (some ⟨w1.heap.size,0,none⟩)] V' fun e w'=>e= .returned (.bool false)/\Below w1.heap.size w1 w'):=fun V' hr=>(jL cP.out qi.out hL hr).mono (by rintro e w' (⟨gp,P,h1,h2,h3⟩|⟨h1,_,h3⟩);exact absurd h2 hO;exact⟨h1,h3⟩)
    have HN:=ζ (lg.out (fun h=>hO h.once));clear hL hO;go_wp2_with (first|(go_at_call 113;rw[<-HV.out];refine HLEN.out.mono ?_;rintro e w3 ⟨rfl,hb3⟩;have H3:=ζ (HR.out.later hb3);clear hb3)|(go_at_call 114;refine(ze.out _ H3.out).mono ?_;rintro e w4 ⟨rfl,hb4⟩;have iE:=ζ hb4;clear hb4));go_ret2;exact .inr ⟨_,rfl,HN.out,BX.out _ iE.out⟩
  .have HLEN:Hid (Calls prog 113 #[.pointer (some ⟨w1.heap.size,0,none⟩)] V fun e w'=>e= .returned (.bool false)/\Below V.heap.size V w'):=(jw cP.out HR.out).mono (by rintro e w' ⟨b,rfl,hb,hbl⟩;have:b=false:=(by cases b;rfl;exact absurd (hb.1 rfl) hL);rw[this];exact⟨rfl,hbl⟩)
   have HN:=ζ (lg.out (fun h=>hL h.lens));clear hL;go_wp2_with (first|(go_at_call 113;rw[<-HV.out];refine HLEN.out.mono ?_;rintro e w3 ⟨rfl,hb3⟩;have H3:=ζ (HR.out.later hb3);clear hb3));go_ret2;exact .inr ⟨_,rfl,HN.out,BX.out _ H3.out.aZ⟩

end
end Go.Proofs.YtbhdibflpjhpaaaGreat
