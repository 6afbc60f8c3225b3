import Derived.Test.YtbhdibflpjhpaaaGreatMg22
set_option maxHeartbeats 8000000
set_option maxRecDepth 100000
namespace Go.Proofs.YtbhdibflpjhpaaaGreat
section
open Go.Proofs.Tryz
open Go.RowKit
abbrev PS (av:Value) (f:For) (s:Df.St) (pv bv:Value):Array Value:= #[av,.slice f.a1 s.par.length f.c1,.slice f.a2 s.ay.length f.c2,.slice f.a3 s.ord.length f.c3,.slice f.a4 s.aT.length f.c4,pv,bv]
structure aO (w0 w:World) (p:Nat) (av:Value) (f:For) (s:Df.St) (pv bv:Value):Prop where
 aZ:Below w0.heap.size w0 w
 blk:w.heap[p]? =some (.cells (PS av f s pv bv) 166 (0,0))
 lo:w0.heap.size<=p
section
variable {w0 w w':World} {p:Nat} {av:Value} {f:For} {s:Df.St} {pv bv:Value} {n:Nat} {es:List (Int×Int)}
theorem aO.c0 (h:aO w0 w p av f s pv bv):w.cell? ⟨p,0,none⟩=some av:=by simp[World.cell?,h.blk]
theorem aO.c1 (h:aO w0 w p av f s pv bv):w.cell? ⟨p,1,none⟩=some (.slice f.a1 s.par.length f.c1):=by simp[World.cell?,h.blk]
theorem aO.c2 (h:aO w0 w p av f s pv bv):w.cell? ⟨p,2,none⟩=some (.slice f.a2 s.ay.length f.c2):=by simp[World.cell?,h.blk]
theorem aO.c3 (h:aO w0 w p av f s pv bv):w.cell? ⟨p,3,none⟩=some (.slice f.a3 s.ord.length f.c3):=by simp[World.cell?,h.blk]
theorem aO.c4 (h:aO w0 w p av f s pv bv):w.cell? ⟨p,4,none⟩=some (.slice f.a4 s.aT.length f.c4):=by simp[World.cell?,h.blk]
theorem aO.c5 (h:aO w0 w p av f s pv bv):w.cell? ⟨p,5,none⟩=some pv:=by simp[World.cell?,h.blk]
theorem aO.c6 (h:aO w0 w p av f s pv bv):w.cell? ⟨p,6,none⟩=some bv:=by simp[World.cell?,h.blk]
theorem aO.free (h:aO w0 w p av f s pv bv) (i:Nat):w.frozen? ⟨p,i,none⟩=false:=by simp[World.frozen?,h.blk]
theorem aO.lt (h:aO w0 w p av f s pv bv):p<w.heap.size:=lt_of_block h.blk
theorem aO.later (h:aO w0 w p av f s pv bv) (hb:Below w.heap.size w w'):aO w0 w' p av f s pv bv:=⟨h.aZ.trans (hb.mono h.aZ.size),(hb.block p h.lt).trans h.blk,h.lo⟩
theorem Fb (x:Int) (aV:bK w0 av n es) (h:aO w0 w p av f s pv bv):
 Calls prog 123 #[.pointer (some ⟨p,0,none⟩),.int .i64 x] w fun e w'=>e= .returned (.bool (decide (0<=x/\x<(n:Int))))/\w'=w:=by
 have c0:=h.c0;have HN:=ζ (mE av n es w (aV.later h.aZ));clear h aV;by_cases h0:0<=x
 .have hd:decide (0<=x/\x<(n:Int))=decide (x<(n:Int)):=by simp[h0]
  rw[hd];go_enter func123,ntmps123;go_wp2_with (go_at_call 24;refine HN.out.mono ?_;rintro e w1 ⟨rfl,rfl⟩);go_ret;exact⟨rfl,rfl⟩
 .have hd:decide (0<=x/\x<(n:Int))=false:=by simp[h0]
  rw[hd];go_enter func123,ntmps123;go_wp2_with (go_at_call 24;refine HN.out.mono ?_;rintro e w1 ⟨rfl,rfl⟩);go_ret;exact⟨rfl,rfl⟩
theorem jw (aV:bK w0 av n es) (h:aO w0 w p av f s pv bv):
 Calls prog 113 #[.pointer (some ⟨p,0,none⟩)] w fun e w'=>∃b,e= .returned (.bool b)/\(b=true↔Df.wG n es s)/\Below w.heap.size w w':=by
 have kT:∃q,av= .pointer q:=by
  rcases aV with ⟨h,_⟩|⟨_,p,h,_⟩
  .exact⟨_,h⟩
  .exact⟨_,h⟩
 obtain⟨q,rfl⟩:=kT;obtain⟨a1,a2,a3,a4,c1,c2,c3,c4⟩:=f;have HS:Hid (∀V,Below w.heap.size w V->V.cell? ⟨p,0,none⟩=some (.pointer q)/\V.cell? ⟨p,1,none⟩=some (.slice a1 s.par.length c1)/\V.cell? ⟨p,2,none⟩=some (.slice a2 s.ay.length c2)/\V.cell? ⟨p,3,none⟩=some (.slice a3 s.ord.length c3)/\V.cell? ⟨p,4,none⟩=some (.slice a4 s.aT.length c4)):=fun V hV=>by
  have:=h.later hV;exact⟨this.c0,this.c1,this.c2,this.c3,this.c4⟩
 have HN:Hid (∀V,Below w.heap.size w V->Calls prog 24 #[.pointer q] V fun e V'=>e= .returned (.int .i64 (n:Int))/\V'=V):=fun V hV=>mE _ n es V (aV.later (h.later hV).aZ)
 have HM:Hid (∀V,Below w.heap.size w V->Calls prog 26 #[.pointer q] V fun e V'=>e= .returned (.int .i64 (es.length:Int))/\V'=V):=fun V hV=>yS _ n es V (aV.later (h.later hV).aZ)
 have hbd:Below w.heap.size w w.drew:=(aae _ _).drew;have hlp:=h.lt;obtain⟨m,hm⟩:∃m,es.length=m:=⟨_,rfl⟩;obtain⟨l1,h1⟩:∃l,s.par.length=l:=⟨_,rfl⟩;obtain⟨l2,h2⟩:∃l,s.ay.length=l:=⟨_,rfl⟩;obtain⟨l3,h3⟩:∃l,s.ord.length=l:=⟨_,rfl⟩;obtain⟨l4,h4⟩:∃l,s.aT.length=l:=⟨_,rfl⟩;have hL:Df.wG n es s↔(l1=n/\l2=n/\l3=n/\l4=m):=by unfold Df.wG;rw[h1,h2,h3,h4,hm]
 rw[hm] at HM;rw[h1,h2,h3,h4] at HS;have HL:=ζ hL;clear h aV hm h1 h2 h3 h4 hL;go_enter func113,ntmps113;go_wp2_with fail
 go_region_held3 (fun V=>V.cell? ⟨p,0,none⟩=some (.pointer q)/\V.cell? ⟨p,1,none⟩=some (.slice a1 l1 c1)/\V.cell? ⟨p,2,none⟩=some (.slice a2 l2 c2)/\V.cell? ⟨p,3,none⟩=some (.slice a3 l3 c3)/\V.cell? ⟨p,4,none⟩=some (.slice a4 l4 c4))
  (exact HS.out _ (by repeat (first|assumption|exact aae _ _|with_reducible refine xB ?_|with_reducible refine xC ?_ _)))
  ((first
    |(go_at_call 24;refine(HN.out _ (by repeat (first|assumption|exact aae _ _|with_reducible refine xB ?_|with_reducible refine xC ?_ _))).mono ?_;rintro e V1 ⟨rfl,rfl⟩)
    |(go_at_call 26;refine(HM.out _ (by repeat (first|assumption|exact aae _ _|with_reducible refine xB ?_|with_reducible refine xC ?_ _))).mono ?_;rintro e V1 ⟨rfl,rfl⟩)))
 all_goals
  have hbz:Below w.heap.size w (w.alloc (.cells #[.slice a1 l1 c1,.slice a2 l2 c2,.slice a3 l3 c3,.slice a4 l4 c4] 79)).drew:=xB (xC (aae _ _) _);have uD:=ζ hbz;clear hbz HS HN HM;by_cases e1:l1=n
  .have t1:((l1:Int)==(n:Int))=true:=by simp only[beq_iff_eq];omega
   have E1:=ζ e1;clear e1;by_cases e2:l2=n
   .have t2:((l2:Int)==(n:Int))=true:=by simp only[beq_iff_eq];omega
    have E2:=ζ e2;clear e2;by_cases e3:l3=n
    .have t3:((l3:Int)==(n:Int))=true:=by simp only[beq_iff_eq];omega
     have E3:=ζ e3;clear e3;by_cases e4:l4=m
     .have t4:((l4:Int)==(m:Int))=true:=by simp only[beq_iff_eq];omega
      have E4:=ζ e4;clear e4;go_wp2;go_ret;exact⟨true,rfl,by rw[HL.out];exact⟨fun _=>⟨E1.out,E2.out,E3.out,E4.out⟩,fun _=>rfl⟩,uD.out⟩
     .have t4:((l4:Int)==(m:Int))=false:=by simp only[beq_eq_false_iff_ne,ne_eq];omega
      have E4:=ζ e4;clear e4;go_wp2;go_ret;exact⟨false,rfl,by rw[HL.out];exact⟨fun h=>(by cases h),fun h=>absurd h.2.2.2 E4.out⟩,uD.out⟩
    .have t3:((l3:Int)==(n:Int))=false:=by simp only[beq_eq_false_iff_ne,ne_eq];omega
     have E3:=ζ e3;clear e3;go_wp2;go_ret;exact⟨false,rfl,by rw[HL.out];exact⟨fun h=>(by cases h),fun h=>absurd h.2.2.1 E3.out⟩,uD.out⟩
   .have t2:((l2:Int)==(n:Int))=false:=by simp only[beq_eq_false_iff_ne,ne_eq];omega
    have E2:=ζ e2;clear e2;go_wp2;go_ret;exact⟨false,rfl,by rw[HL.out];exact⟨fun h=>(by cases h),fun h=>absurd h.2.1 E2.out⟩,uD.out⟩
  .have t1:((l1:Int)==(n:Int))=false:=by simp only[beq_eq_false_iff_ne,ne_eq];omega
   have E1:=ζ e1;clear e1;go_wp2;go_ret;exact⟨false,rfl,by rw[HL.out];exact⟨fun h=>(by cases h),fun h=>absurd h.1 E1.out⟩,uD.out⟩
end
end
section
open Go.Proofs.Tryz
open Go.RowKit
section
variable {w0 w:World} {p:Nat} {av:Value} {f:For} {s:Df.St} {pv bv:Value} {n:Nat} {es:List (Int×Int)}
theorem zH (v:Nat) (aV:bK w0 av n es) (hF:mV w0 f s) (hL:Df.wG n es s) (h:aO w0 w p av f s pv bv) (hv:v<n):
 Calls prog 124 #[.pointer (some ⟨p,0,none⟩),.int .i64 (v:Int)] w (ku (Df.mq es s v) w):=by
 obtain⟨l1,l2,l3,l4⟩:=hL;obtain⟨yD,lZ⟩:=aV.bounds;have kT:∃q,av= .pointer q:=by
  rcases aV with ⟨h,_⟩|⟨_,p,h,_⟩
  .exact⟨_,h⟩
  .exact⟨_,h⟩
 obtain⟨q,rfl⟩:=kT;obtain⟨a1,a2,a3,a4,k1,k2,k3,k4⟩:=f;have IY:=hF.later h.aZ;obtain⟨b1,o1,e1,d1⟩:=dm IY.l1 (i:=v) (by omega);obtain⟨b2,o2,e2,d2⟩:=dm IY.l2 (i:=v) (by omega);dsimp only at e1 e2;subst e1;subst e2;have c0:=h.c0;have c1:=h.c1;have c2:=h.c2;have c4:=h.c4;dsimp only at c1 c2 c4;rw[l1] at c1;rw[l2] at c2;rw[l4] at c4;obtain⟨x,hx⟩:∃x,s.par.getD v (-1)=x:=⟨_,rfl⟩;obtain⟨y,hy⟩:∃y,s.ay.getD v (-1)=y:=⟨_,rfl⟩;have mK:Df.at_ s.par v=x:=hx;have DK:Df.at_ s.ay v=y:=hy;rw[hx] at d1;rw[hy] at d2;have v0:(0:Int)<=(v:Int):=by omega
 have v1:(v:Int)<(n:Int):=by omega
 have VX:=jO (.pointer q) n es x;by_cases hx1:x= -1
 .have hH:Df.mq es s v↔y=0:=by
   unfold Df.mq;rw[mK,DK];constructor
   .rintro(⟨_,h⟩|⟨h,_,h1,_⟩)
    .exact h
    .omega
   .exact fun h=> .inl ⟨hx1,h⟩
  have t1:(x== -1)=true:=by simp[hx1]
  have HH:=ζ hH;by_cases hy0:y=0
  .have t2:(y==0)=true:=by simp[hy0]
   have HY:=ζ hy0;subst hx1;clear hH IY hF aV h hx hy mK DK VX hy0 t1;go_enter func124,ntmps124;go_wp2_with fail;go_quiet (fail);go_wp2;go_ret;exact⟨true,rfl,by rw[HH.out];exact⟨fun _=>HY.out,fun _=>rfl⟩,below_drewN (aae _ _) _⟩
  .have t2:(y==0)=false:=by simp[hy0]
   have HY:=ζ hy0;subst hx1;clear hH IY hF aV h hx hy mK DK VX hy0 t1;go_enter func124,ntmps124;go_wp2_with fail;go_quiet (fail);go_wp2;go_ret;exact⟨false,rfl,by rw[HH.out];exact⟨fun h=>(by cases h),fun h=>absurd h HY.out⟩,below_drewN (aae _ _) _⟩
 .have t1:(x== -1)=false:=by simp[hx1]
  by_cases rT:(0<=x/\x<2*(es.length:Int))/\Cs.toI es x=(v:Int)
  .obtain⟨⟨hx0,hx2⟩,hto⟩:=rT
   obtain⟨e,rfl⟩:∃e:Nat,x=(e:Int):=⟨x.toNat,by omega⟩;have hel:e<2*es.length:=by omega
   have hval:=aV.val hel;have hfl:=(Cs.bI hval hel).1;rw[Cs.toI_in hel] at hto;obtain⟨jh,mM⟩:∃jh,e/2=jh:=⟨_,rfl⟩;have DT:(e:Int).tdiv 2=(jh:Int):=by rw[acG (by omega)];omega
   have KS:(e:Int)/2=(jh:Int):=by omega
   have j0:(0:Int)<=(jh:Int):=by omega
   have j1:(jh:Int)<(es.length:Int):=by omega
   obtain⟨b4,o4,e4,d4⟩:=dm IY.l4 (i:=jh) (by omega);obtain⟨b5,o5,e5,d5⟩:=dm IY.l2 (i:=Cs.fr es e) (by omega);dsimp only at e4 e5;subst e4;injection e5 with e5
   injection e5 with e6 e7
   subst e6;subst e7;obtain⟨z,hz⟩:∃z,s.ay.getD (Cs.fr es e) (-1)=z:=⟨_,rfl⟩;obtain⟨o,Vh⟩:∃o,s.aT.getD jh (-1)=o:=⟨_,rfl⟩;rw[hz] at d5;rw[Vh] at d4;have pF:Hid (∀V,Below w.heap.size w V->Calls prog 44 #[.pointer q,.int .i64 (e:Int)] V fun r V'=>r= .returned (.int .i64 (v:Int))/\V'=V):=by
    intro V hV;have:=jO (.pointer q) n es e V (aV.later (h.later hV).aZ);rw[Cs.toI_in hel,hto] at this;exact this
   have lA:Hid (∀V,Below w.heap.size w V->Calls prog 42 #[.pointer q,.int .i64 (e:Int)] V fun r V'=>r= .returned (.int .i64 (Cs.fr es e:Int))/\V'=V):=by
    intro V hV;have:=j7 (.pointer q) n es e V (aV.later (h.later hV).aZ);rw[Cs.jQ hel] at this;exact this
   have hH:Df.mq es s v↔(o=(e:Int)/\y=IntKind.i64.wrap (z+1)):=by
    unfold Df.mq;rw[mK,DK];constructor
    .rintro(⟨h,_⟩|⟨h',h1,h2,h3,h4,h5⟩)
     .omega
     .obtain rfl:h'=e:=by omega
      refine⟨?_,?_⟩
      .rw[<-Vh,<-mM];exact h4
      .rw[<-hz];exact h5
    .rintro⟨h1,h2⟩
     refine .inr ⟨e,hel,rfl,by omega,?_,?_⟩
     .show s.aT.getD (e/2) (-1)=_
      rw[mM,Vh];exact h1
     .rw[h2,<-hz]
   have HH:=ζ hH;obtain⟨fe,yA⟩:∃fe,Cs.fr es e=fe:=⟨_,rfl⟩;rw[yA] at hfl d5 lA;have f0:(0:Int)<=(fe:Int):=by omega
   have f1:(fe:Int)<(n:Int):=by omega
   have tv:((v:Int) != (v:Int))=false:=by simp
   have HCS:Hid (∀W k,W=w.drewN k->W.cell? ⟨p,0,none⟩=some (.pointer q)/\W.cell? ⟨p,2,none⟩=some (.slice (some ⟨b2,o2,none⟩) n k2)/\W.cell? ⟨p,4,none⟩=some (.slice (some ⟨b4,o4,none⟩) es.length k4)/\W.cell? ⟨b4,o4+jh,none⟩=some (.int .i64 o)/\W.cell? ⟨b2,o2+fe,none⟩=some (.int .i64 z)):=fun W k hW=>by subst hW;exact⟨c0,c2,c4,d4,d5⟩
   have hjw:IntKind.i64.wrap (jh:Int)=(jh:Int):=by rw[acf];omega
   by_cases ho:o=(e:Int)
   .have t3:(o==(e:Int))=true:=by simp[ho]
    have HO:=ζ ho;clear hH IY hF aV h hx hy mK DK VX hz Vh yA hto hval ho hx1;go_enter func124,ntmps124;go_wp2_with fail;go_quiet (fail);obtain⟨W,hW⟩:∃W,W=w.drewN nq:=⟨_,rfl⟩;rw[<-hW];obtain⟨z0,z2,z4,y4,y5⟩:=HCS.out W nq hW;have dJ:Below w.heap.size w W:=by rw[hW];exact below_drewN (aae _ _) _
    have fP:=ζ dJ;have Xz:=ζ (pF.out W dJ);clear hW dJ c0 c1 c2 c4 d1 d2 d4 d5;go_wp2_with (go_at_call 44;refine Xz.out.mono ?_;rintro r V ⟨rfl,hV⟩;obtain rfl:=hV.symm);go_quiet ((go_at_call 42;exact aem (lA.out _ (below_drewN fP.out _))));go_wp2;go_ret;refine⟨_,rfl,?_,below_drewN fP.out _⟩;have ew:wrap64 (z+1)=IntKind.i64.wrap (z+1):=by rw[acf];unfold wrap64;rfl
    rw[HH.out,beq_iff_eq,ew];exact⟨fun h=>⟨HO.out,h⟩,fun h=>h.2⟩
   .have t3:(o==(e:Int))=false:=by simp[ho]
    have HO:=ζ ho;clear hH IY hF aV h hx hy mK DK VX hz Vh yA hto hval ho hx1;go_enter func124,ntmps124;go_wp2_with fail;go_quiet (fail);obtain⟨W,hW⟩:∃W,W=w.drewN nq:=⟨_,rfl⟩;rw[<-hW];obtain⟨z0,z2,z4,y4,y5⟩:=HCS.out W nq hW;have dJ:Below w.heap.size w W:=by rw[hW];exact below_drewN (aae _ _) _
    have fP:=ζ dJ;have Xz:=ζ (pF.out W dJ);clear hW dJ c0 c1 c2 c4 d1 d2 d4 d5;go_wp2_with (go_at_call 44;refine Xz.out.mono ?_;rintro r V ⟨rfl,hV⟩;obtain rfl:=hV.symm);go_quiet ((go_at_call 42;exact aem (lA.out _ (below_drewN fP.out _))));go_wp2;go_ret;exact⟨false,rfl,by rw[HH.out];exact⟨fun h=>(by cases h),fun h=>absurd h.1 HO.out⟩,below_drewN fP.out _⟩
  .have hne:Cs.toI es x≠(v:Int):=fun e=>rT ⟨by
    by_cases hx3:0<=x/\x<2*(es.length:Int)
    .exact hx3
    .rw[Cs.toI_no hx3] at e;omega,e⟩
   have hH:¬Df.mq es s v:=by
    unfold Df.mq;rw[mK,DK];rintro(⟨h,_⟩|⟨h',h1,h2,h3,_⟩)
    .exact hx1 h
    .apply hne
     rw[h2,Cs.toI_in h1,h3]
   obtain⟨g,hg⟩:∃g,Cs.toI es x=g:=⟨_,rfl⟩;have pF:Hid (∀V,Below w.heap.size w V->Calls prog 44 #[.pointer q,.int .i64 x] V fun r V'=>r= .returned (.int .i64 g)/\V'=V):=by
    intro V hV;have:=jO (.pointer q) n es x V (aV.later (h.later hV).aZ);rw[hg] at this;exact this
   rw[hg] at hne;have t3:(g != (v:Int))=true:=by simpa using hne
   have HH:=ζ hH;clear hH IY hF aV h hx hy mK DK VX rT hne hg hx1;go_enter func124,ntmps124;go_wp2_with fail;go_quiet (fail);go_wp2_with (go_at_call 44;refine(pF.out _ (below_drewN (aae _ _) _)).mono ?_;rintro r V ⟨rfl,hV⟩;obtain rfl:=hV.symm);go_ret;exact⟨false,rfl,⟨fun h=>(by cases h),fun h=>absurd h HH.out⟩,below_drewN (aae _ _) _⟩
theorem iO (aV:bK w0 av n es) (hF:mV w0 f s) (hL:Df.wG n es s) (h:aO w0 w p av f s pv bv):
 Calls prog 115 #[.pointer (some ⟨p,0,none⟩)] w (ku (Df.EO n es s) w):=by
 obtain⟨yD,lZ⟩:=aV.bounds;have c0:=h.c0;have HN:=ζ (mE av n es w (aV.later h.aZ));have ZW:Hid (∀V (v:Nat),Below w.heap.size w V->v<n->Calls prog 124 #[.pointer (some ⟨p,0,none⟩),.int .i64 (v:Int)] V (ku (Df.mq es s v) V)):=fun V v hV hv=>zH v aV hF hL (h.later hV) hv
 clear aV hF hL h;go_enter func115,ntmps115;go_wp2_with (go_at_call 24;refine HN.out.mono ?_;rintro e w1 ⟨rfl,hw1⟩;obtain rfl:=hw1.symm);clear c0;go_loopw [9] (fun c wr=>∃k:Nat,k<=n/\c= .int .i64 k/\(∀v,v<k->Df.mq es s v)/\Below w.heap.size w wr) (fun c _=>n-(intOf c).toNat)
 case atStart=>exact⟨0,ab6 _,rfl,fun v hv=>(by omega),aae _ _⟩
 case round=>
  obtain⟨k,hk,rfl,hall,hb⟩:=hrel;have q9:=ζ hall;have HB:=ζ hb;by_cases hlt:k<n
  .have kR:(k:Int)<(n:Int):=by omega
   have fG:=ZW.out wr k hb hlt;by_cases hh:Df.mq es s k
   .have HC:Hid (Calls prog 124 #[.pointer (some ⟨p,0,none⟩),.int .i64 (k:Int)] wr fun e V'=>e= .returned (.bool true)/\Below wr.heap.size wr V'):=fG.mono (by
     rintro e V' ⟨b,rfl,h1,h2⟩;exact⟨by rw[h1.2 hh],h2⟩)
    have HH:=ζ hh;clear fG hh hall hb;go_wp2_with (go_at_call 124;refine HC.out.mono ?_;rintro e w2 ⟨rfl,hb2⟩;have cj:=ζ hb2;clear hb2);go_roundw
    case rel=>
     refine⟨k+1,by omega,by go_num,fun v hv=> ?_,HB.out.trans (cj.out.mono HB.out.size)⟩;by_cases e:v=k
     .rw[e];exact HH.out
     .exact q9.out v (by omega)
    case measure=>simp[intOf];omega
   .have HC:Hid (Calls prog 124 #[.pointer (some ⟨p,0,none⟩),.int .i64 (k:Int)] wr fun e V'=>e= .returned (.bool false)/\Below wr.heap.size wr V'):=fG.mono (by
     rintro e V' ⟨b,rfl,h1,h2⟩;cases b with
     |true=>exact absurd (h1.1 rfl) hh
     |false=>exact⟨rfl,h2⟩)
    have HH:=ζ hh;have tA:=ζ hlt;clear fG hh hall hb;go_wp2_with (go_at_call 124;refine HC.out.mono ?_;rintro e w2 ⟨rfl,hb2⟩;have cj:=ζ hb2;clear hb2);go_ret;exact⟨false,rfl,⟨fun h=>(by cases h),fun h=>absurd (h k tA.out) HH.out⟩,HB.out.trans (cj.out.mono HB.out.size)⟩
  .have hd:¬((k:Int)<(n:Int)):=by omega
   have HK:Hid (k=n):=show k=n by omega
   clear hall hb;go_wp2;go_ret;exact⟨true,rfl,⟨fun _ v hv=>q9.out v (by rw[HK.out];exact hv),fun _=>rfl⟩,HB.out⟩
end
end
section
open Go.RowKit
namespace Df
def yY (n:Nat) (s:St) (k:Nat) (P:List Int):Prop:=P.length=n/\(∀a,a<k->at_ P (at_ s.ord a).toNat=(a:Int))/\∀v:Nat,v<n->(∀a,a<k->at_ s.ord a≠(v:Int))->at_ P v= -1
theorem yY.step {n:Nat} {s:St} {k:Nat} {P:List Int} {v:Nat} (h:yY n s k P) (ho:jk n s k) (hv:at_ s.ord k=(v:Int)) (eM:v<n) (hno:∀a,a<k->at_ s.ord a≠(v:Int)):jk n s (k+1)/\yY n s (k+1) (P.set v (k:Int)):=by
 obtain⟨h1,h2,h3⟩:=h;have Gk:∀u:Nat,at_ (P.set v (k:Int)) u=if u=v then (k:Int) else at_ P u:=fun u=>by
  unfold at_;rw[aag,ab0];by_cases e:v=u
  .rw[if_pos e,if_pos (by omega),if_pos e.symm];rfl
  .rw[if_neg e,if_neg (fun e2=>e e2.symm),<-aag]
 refine⟨fun i hi=> ?_,by simp[h1],fun a ha=> ?_,fun u hu hall=> ?_⟩
 .by_cases e:i=k
  .subst e
   rw[hv];exact⟨by omega,hno⟩
  .exact ho i (by omega)
 .rw[Gk]
  by_cases e:a=k
  .subst e
   rw[hv,ach,if_pos rfl]
  .have h4:=hno a (by omega)
   have h5:=(ho a (by omega)).1;rw[if_neg (by omega)];exact h2 a (by omega)
 .rw[Gk,if_neg]
  .exact h3 u hu fun a ha=>hall a (by omega)
  .intro e
   exact hall k (by omega) (by rw[hv,e])
end Df
def Ta (w0:World) (p:Nat) (av:Value) (f:For) (s:Df.St) (bv:Value) (n:Nat) (e:Ending) (w':World):Prop:=
 (∃gp P,e= .returned (.bool true)/\Df.jk n s n/\aO w0 w' p av f s (.slice (some ⟨gp,0,none⟩) n n) bv/\af w' gp P/\Df.jM n s P/\gp≠p/\w0.heap.size<=gp)\/(e= .returned (.bool false)/\¬Df.jk n s n/\Below w0.heap.size w0 w')
section
variable {w0 w:World} {p:Nat} {av:Value} {f:For} {s:Df.St} {pv bv:Value} {n:Nat} {es:List (Int×Int)}
theorem aO.bO {g i:Nat} {x:Value} (h:aO w0 w p av f s pv bv) (hg:g≠p) (hlo:w0.heap.size<=g):aO w0 (w.setCell ⟨g,i,none⟩ x) p av f s pv bv:=
 ⟨h.aZ.setCell (p:=⟨g,i,none⟩) hlo _,(mh (fun e=>hg e.symm) _).trans h.blk,h.lo⟩
theorem aO.PD (h:aO w0 w p av f s pv bv) (x:Value):aO w0 (w.setCell ⟨p,5,none⟩ x) p av f s x bv:=by
 refine⟨h.aZ.setCell (p:=⟨p,5,none⟩) h.lo _,?_,h.lo⟩;rw[heap_setCell_same w p 5 _ _ _ h.blk];rfl
theorem aO.TZ (h:aO w0 w p av f s pv bv) (x:Value):aO w0 (w.setCell ⟨p,6,none⟩ x) p av f s pv x:=by
 refine⟨h.aZ.setCell (p:=⟨p,6,none⟩) h.lo _,?_,h.lo⟩;rw[heap_setCell_same w p 6 _ _ _ h.blk];rfl
theorem jL (aV:bK w0 av n es) (hF:mV w0 f s) (hL:Df.wG n es s) (h:aO w0 w p av f s pv bv):
 Calls Tryz.prog 114 #[.pointer (some ⟨p,0,none⟩)] w (Ta w0 p av f s bv n):=by
 obtain⟨yD,lZ⟩:=aV.bounds;obtain⟨l1,l2,l3,l4⟩:=hL;obtain⟨a1,a2,a3,a4,k1,k2,k3,k4⟩:=f;have c0:=h.c0;have HN:=ζ (mE av n es w (aV.later h.aZ));have HU:=ζ (CE n w (by omega));have cP:=ζ aV;have HF:=ζ hF;have HR:=ζ h;have hlp:=h.lt;have hlo:=h.aZ.size;clear aV hF h;go_enter Tryz.func114,Tryz.ntmps114;go_wp2_with (first|(go_at_call 24;refine HN.out.mono ?_;rintro e w1 ⟨rfl,hw1⟩;obtain rfl:=hw1.symm)|(go_at_call 60;refine HU.out.mono ?_;rintro e w1 ⟨g,rfl,hg,hi,hb1⟩;refine abQ ?_));refine ζ ?_;have h1:=HR.out.later hb1;have f5:=h1.free 5;have c5:=h1.c5;have hgp:g≠p:=by omega
 have h2:=h1.PD (.slice (some ⟨g,0,none⟩) n n);have hi2:=hi.bO (i:=5) (b:=p) hgp (.slice (some ⟨g,0,none⟩) n n);obtain⟨w2,hw2⟩:∃w2,w2=w1.setCell ⟨p,5,none⟩ (.slice (some ⟨g,0,none⟩) n n):=⟨_,rfl⟩;have c3:=h2.c3;rw[<-hw2] at h2 hi2;have H2:=ζ h2;have iM:=ζ hi2;have qh:=ζ hw2;dsimp only at c3;clear hi hb1 h1 h2 hi2 hw2 c0 HR;go_wp2;rw[<-qh.out];clear c5 f5 c3;go_loopw [20] (fun c wr=>∃(k:Nat) (P:List Int),k<=n/\c= .int .i64 k/\Df.jk n s k/\Df.yY n s k P/\af wr g P/\aO w0 wr p av ⟨a1,a2,a3,a4,k1,k2,k3,k4⟩ s (.slice (some ⟨g,0,none⟩) n n) bv) (fun c _=>n-(intOf c).toNat)
 case atStart=>
  refine⟨0,_,ab6 _,rfl,fun i hi=>(by omega),⟨by simp,fun a ha=>(by omega),fun v hv _=> ?_⟩,iM.out,H2.out⟩;simp[Df.at_,hv]
 case round=>
  obtain⟨k,P,hk,rfl,hO,IW,K3,hr⟩:=hrel;have HO:=ζ hO;have yZ:=ζ IW;have HIP:=ζ K3;have BZ:=ζ hr;by_cases hlt:k<n
  .have kR:(k:Int)<(n:Int):=by omega
   have akN:(k:Int)<(s.ord.length:Int):=by omega
   have hk0:(0:Int)<=(k:Int):=by omega
   obtain⟨b3,o3,e3,d3⟩:=dm (HF.out.later hr.aZ).l3 (i:=k) (by omega);dsimp only at e3;subst e3;obtain⟨x,hx⟩:∃x,s.ord.getD k (-1)=x:=⟨_,rfl⟩;have mK:Df.at_ s.ord k=x:=hx;rw[hx] at d3;have fG:=Fb x cP.out hr;by_cases hin:0<=x/\x<(n:Int)
   .rw[decide_eq_true hin] at fG
    obtain⟨v,rfl⟩:∃v:Nat,x=(v:Int):=⟨x.toNat,by omega⟩;have eM:v<n:=by omega
    obtain⟨v0,v1⟩:=hin;have ald:=IW.1;have c5:=hr.c5;have d5:=K3.cell (gF (-1) (by omega:v<P.length));have f5:=K3.free v;have HC:=ζ fG;by_cases VC:∃a,a<k/\Df.at_ s.ord a=(v:Int)
    .obtain⟨a,ha,kT⟩:=VC
     have hpa:P.getD v (-1)=(a:Int):=by
      have:=IW.2.1 a ha;rw[kT,ach] at this;exact this
     rw[hpa] at d5;have t1:((a:Int) != -1)=true:=by simp only[bne_iff_ne,ne_eq];omega
     have lg:Hid (¬Df.jk n s n):=fun h=>(h k hlt).2 a ha (by rw[kT,mK])
     have zj:=ζ hr.aZ;clear hO IW K3 hr hx mK fG hpa kT;go_wp2_with (go_at_call 123;refine HC.out.mono ?_;rintro e w3 ⟨rfl,hw3⟩;obtain rfl:=hw3.symm);go_ret;exact .inr ⟨rfl,lg.out,zj.out⟩
    .have hno:∀a,a<k->Df.at_ s.ord a≠(v:Int):=fun a ha e=>VC ⟨a,ha,e⟩
     have hpa:P.getD v (-1)= -1:=IW.2.2 v eM hno;rw[hpa] at d5;have HST:=ζ (IW.step hO mK eM hno);have ET:=ζ (K3.set v (k:Int));have sJ:=ζ (hr.bO (i:=v) (x:= .int .i64 (k:Int)) hgp (by omega:w0.heap.size<=g));clear hO IW K3 hr hx mK fG hpa hno VC;go_wp2_with (go_at_call 123;refine HC.out.mono ?_;rintro e w3 ⟨rfl,hw3⟩;obtain rfl:=hw3.symm);go_roundw
     case rel=>exact⟨k+1,_,by omega,by go_num,HST.out.1,HST.out.2,ET.out,sJ.out⟩
     case measure=>simp[intOf];omega
   .rw[decide_eq_false hin] at fG
    have HC:=ζ fG;have lg:Hid (¬Df.jk n s n):=fun h=>hin (by have:=(h k hlt).1;rw[mK] at this;exact this)
    have zj:=ζ hr.aZ;clear hO IW K3 hr hx mK fG hin;go_wp2_with (go_at_call 123;refine HC.out.mono ?_;rintro e w3 ⟨rfl,hw3⟩;obtain rfl:=hw3.symm);go_ret;exact .inr ⟨rfl,lg.out,zj.out⟩
  .have hd:¬((k:Int)<(s.ord.length:Int)):=by omega
   obtain rfl:k=n:=by omega
   have HGP:=ζ hgp;have HLG:Hid (w0.heap.size<=g):=show w0.heap.size<=g by omega
   clear hO IW K3 hr;go_wp2;go_ret;exact .inl ⟨g,P,rfl,HO.out,BZ.out,HIP.out,⟨yZ.out.1,yZ.out.2.1⟩,HGP.out,HLG.out⟩
end
end
section
open Go.Proofs.Tryz
open Go.RowKit
structure eI (w0 w:World) (p q gp gb:Nat) (av:Value) (f:For) (s:Df.St) (n:Nat) (v:Value) (P B W:List Int):Prop where
 rd:aO w0 w p av f s (.slice (some ⟨gp,0,none⟩) n n) (.slice (some ⟨gb,0,none⟩) n n)
 ip:af w gp P
 ib:af w gb B
 st:ji w q 0 #[v] 98 w0.heap.size v W.reverse
 ne:p≠gp/\p≠gb/\p≠q/\gp≠gb/\gp≠q/\gb≠q
 lo:w0.heap.size<=gp/\w0.heap.size<=gb/\w0.heap.size<=q
 far:v.ownBlock≠some p/\v.ownBlock≠some gp/\v.ownBlock≠some gb
section
variable {w0 w w':World} {p q gp gb:Nat} {av:Value} {f:For} {s:Df.St} {n:Nat} {v:Value} {P B W:List Int}
theorem ji.later {b o B:Nat} {cs:Array Value} {T:TypeId} {v:Value} {K:List Int} (h:ji w b o cs T B v K) (hb:Below w.heap.size w w'):ji w' b o cs T B v K:=⟨(hb.block b h.lt).trans h.blk,h.at_,h.own.later hb,h.far⟩
theorem eI.later (h:eI w0 w p q gp gb av f s n v P B W) (hb:Below w.heap.size w w'):eI w0 w' p q gp gb av f s n v P B W:=⟨h.rd.later hb,h.ip.later hb,h.ib.later hb,h.st.later hb,h.ne,h.lo,h.far⟩
theorem eI.TZ (h:eI w0 w p q gp gb av f s n v P B W) (u:Nat) (x:Int):eI w0 (w.setCell ⟨gb,u,none⟩ (.int .i64 x)) p q gp gb av f s n v P (B.set u x) W:=by
 obtain⟨n1,n2,n3,n4,n5,n6⟩:=h.ne;exact⟨h.rd.bO (aao n2) h.lo.2.1,h.ip.bO n4 _,h.ib.set u x,⟨(mh (aao n6) _).trans h.st.blk,h.st.at_,h.st.own.bO h.far.2.2 _,h.st.far⟩,h.ne,h.lo,h.far⟩
theorem eI.popped {x:Int} {e:Ending} {W':List Int} (h:eI w0 w p q gp gb av f s n v P B W) (hp:yX q 0 #[v] 98 w0.heap.size v W'.reverse x w e w'):∃v',eI w0 w' p q gp gb av f s n v' P B W':=by
 obtain⟨_,v',hst,hat,hw⟩:=hp;obtain⟨n1,n2,n3,n4,n5,n6⟩:=h.ne;have hB:=h.rd.aZ.size;have keep:∀b,b<w.heap.size->b≠q->w'.heap[b]? =w.heap[b]? :=fun b hb h1=>hw.block b hb h1
 exact⟨v',⟨h.rd.aZ.trans (hw.below hB fun k hk=>by subst hk;exact h.lo.2.2),(keep p h.rd.lt n3).trans h.rd.blk,h.rd.lo⟩,(keep gp h.ip.lt n5).trans h.ip,(keep gb h.ib.lt n6).trans h.ib,hst,h.ne,h.lo,by rw[hat];exact h.far⟩
theorem eI.pushed {e:Ending} {x:Int} (h:eI w0 w p q gp gb av f s n v P B W) (hp:vM q 0 #[v] 98 w0.heap.size v (W.reverse++[x]) w e w'):∃v',eI w0 w' p q gp gb av f s n v' P B (x::W):=by
 obtain⟨_,v',hst,hat,hw⟩:=hp;obtain⟨n1,n2,n3,n4,n5,n6⟩:=h.ne;have hB:=h.rd.aZ.size;have keep:∀b,b<w.heap.size->b≠q->v.ownBlock≠some b->w'.heap[b]? =w.heap[b]? :=fun b hb h1 h2=>hw.block b hb (fun e=>e.elim h1 h2)
 have hnew:∀b,b<w.heap.size->v.ownBlock≠some b->v'.ownBlock≠some b:=fun b hb hne e=>by
  rcases hat with e1|⟨g,e1,hg⟩
  .exact hne (e1.symm.trans e)
  .rw[e1] at e
   have:=aal e;omega
 refine⟨v',⟨h.rd.aZ.trans (hw.below hB fun k hk=> ?_),(keep p h.rd.lt n3 h.far.1).trans h.rd.blk,h.rd.lo⟩,(keep gp h.ip.lt n5 h.far.2.1).trans h.ip,(keep gb h.ib.lt n6 h.far.2.2).trans h.ib,?_,h.ne,h.lo,hnew p h.rd.lt h.far.1,hnew gp h.ip.lt h.far.2.1,hnew gb h.ib.lt h.far.2.2⟩
 .rcases hk with rfl|hk
  .exact h.lo.2.2
  .exact(h.st.own.lt hk).1
 .rw[ac4]
  exact hst
def Bi (w0:World) (p q gp gb:Nat) (av:Value) (f:For) (s:Df.St) (n:Nat) (P:List Int) (u i:Int) (T:List Int×List Int) (w:World) (k:Nat):Prop:=
 ∃v B W,W.length=k/\eI w0 w p q gp gb av f s n v P B W/\Df.leave u i W B=T/\B.length=n/\∀x∈W,0<=x/\x<(n:Int)
def EM (w0:World) (p q gp gb:Nat) (av:Value) (f:For) (s:Df.St) (n:Nat) (P:List Int) (T:List Int×List Int) (e:Ending) (w':World):Prop:=
 e= .returned (.tuple #[])/\∃v,eI w0 w' p q gp gb av f s n v P T.2 T.1
theorem Dz (u i:Int) (h:eI w0 w p q gp gb av f s n v P B W) (hB:B.length=n) (hW:∀x∈W,0<=x/\x<(n:Int)) (hl:W.length<=1048576):
 Calls prog 125 #[.pointer (some ⟨p,0,none⟩),.pointer (some ⟨q,0,none⟩),.int .i64 u,.int .i64 i] w (EM w0 p q gp gb av f s n P (Df.leave u i W B)):=by
 obtain⟨T,hT⟩:∃T,Df.leave u i W B=T:=⟨_,rfl⟩;have HI:Hid (Bi w0 p q gp gb av f s n P u i T w W.length):=⟨v,B,W,rfl,h,hT,hB,hW⟩;rw[hT];have HL:=ζ hl;clear h hT hB hW hl;go_enter func125,ntmps125;go_wp2;go_loopw [8] (fun _ wr=>∃k,k<=W.length/\Bi w0 p q gp gb av f s n P u i T wr k) (fun _ wr=>leastOf (Bi w0 p q gp gb av f s n P u i T wr))
 case atStart=>exact⟨_,aad _,HI.out⟩
 case round=>
  obtain⟨k0,agT,hk0⟩:=hrel;obtain⟨hI,hle⟩:=leastOf_spec hk0;obtain⟨k,hk⟩:∃k,leastOf (Bi w0 p q gp gb av f s n P u i T wr)=k:=⟨_,rfl⟩;rw[hk] at hI hle;have Ap:Hid (∀V k',Bi w0 p q gp gb av f s n P u i T V k'->k'<k->leastOf (Bi w0 p q gp gb av f s n P u i T V)<leastOf (Bi w0 p q gp gb av f s n P u i T wr)):=fun V k' h1 h2=>by
   rw[hk];have:=(leastOf_spec h1).2;omega
  have HKL:Hid (k<=W.length):=show k<=W.length by omega
  have hkl:k<=1048576:=by have:=HL.out;have:=HKL.out;omega
  clear hk hk0 hle agT;obtain⟨v1,B1,W1,hW1,hs,hT,hB1,hr1⟩:=hI;cases W1 with
  |nil=>
   have he:=oD q 0 _ _ _ _ _ wr hs.st;have BM:decide (([]:List Int).reverse.length=0)=true:=rfl;rw[BM] at he;have HE:=ζ he;have bX:Hid (∃v,eI w0 wr p q gp gb av f s n v P T.2 T.1):=⟨v1,by rw[<-hT];exact hs⟩;clear he hs hT BM hr1 hB1 hW1;go_wp2_with (go_at_call 62;refine HE.out.mono ?_;rintro e w2 ⟨rfl,hw2⟩;obtain rfl:=hw2.symm)
   go_end0
   exact⟨rfl,bX.out⟩
  |cons x W1=>
   have hst:=hs.st;rw[ac4] at hst;have hlen:W1.reverse.length<=17592186044000:=by rw[acD];simp at hW1;omega
   have he:=oD q 0 _ _ _ _ _ wr hst;have BM:decide ((W1.reverse++[x]).length=0)=false:=by simp
   rw[BM] at he;have HE:=ζ he;have nC:Hid (Calls prog 81 #[.pointer (some ⟨q,0,none⟩)] wr fun e w'=>e= .returned (.int .i64 x)/\∃k,w'=wr.drewN k):=JN q 0 _ _ _ _ W1.reverse x wr hst hlen;by_cases hx:x=u
   .have t1:(x != u)=false:=by simp[hx]
    have bX:Hid (∀d,∃v,eI w0 (wr.drewN d) p q gp gb av f s n v P T.2 T.1):=fun d=>⟨v1,by
     rw[<-hT];unfold Df.leave;rw[if_pos hx];exact hs.later (below_drewN (aae _ _) d)⟩
    clear he hs hT BM hr1 hB1 hW1 hst hx;go_wp2_with (first|(go_at_call 62;refine HE.out.mono ?_;rintro e w2 ⟨rfl,hw2⟩;obtain rfl:=hw2.symm)|(go_at_call 81;refine nC.out.mono ?_;rintro e w3 ⟨rfl,d,rfl⟩))
    go_end0
    exact⟨rfl,bX.out d⟩
   .have t1:(x != u)=true:=by simp[hx]
    have hx0:=hr1 x aai;obtain⟨y,rfl⟩:∃y:Nat,x=(y:Int):=⟨x.toNat,by omega⟩;have y0:(0:Int)<=(y:Int):=by omega
    have y1:(y:Int)<(n:Int):=by omega
    have mX:Hid (∀V,Below wr.heap.size wr V->Calls prog 63 #[.pointer (some ⟨q,0,none⟩)] V fun e V'=>e= .returned (.int .i64 (y:Int))/\V'.cell? ⟨p,6,none⟩=some (.slice (some ⟨gb,0,none⟩) n n)/\(∃c,V'.cell? ⟨gb,y,none⟩=some (.int .i64 c))/\V'.frozen? ⟨gb,y,none⟩=false/\(V'.setCell ⟨gb,y,none⟩ (.int .i64 i)).cell? ⟨p,6,none⟩=some (.slice (some ⟨gb,0,none⟩) n n)/\Bi w0 p q gp gb av f s n P u i T (V'.setCell ⟨gb,y,none⟩ (.int .i64 i)) W1.length):=fun V hV=>by
     have Fg:=hs.later hV;have agp:=hst.later hV;refine(J9 q 0 _ _ _ _ W1.reverse (y:Int) V agp hlen).mono ?_;intro e V' hp;obtain⟨v2,h2⟩:=Fg.popped hp;have h3:=h2.TZ y i;refine⟨hp.1,h2.rd.c6,⟨_,h2.ib.cell (gF (-1) (by omega:y<B1.length))⟩,h2.ib.free y,h3.rd.c6,v2,B1.set y i,W1,rfl,h3,?_,by simp[hB1],fun z hz=>hr1 z (aak _ hz)⟩;rw[<-hT]
     conv=>rhs;unfold Df.leave
     rw[if_neg hx,ach]
    have HS:Hid (∀V,Below wr.heap.size wr V->V.cell? ⟨p,6,none⟩=some (.slice (some ⟨gb,0,none⟩) n n)):=fun V hV=>(hs.later hV).rd.c6
    have tA:Hid (W1.length<k):=show W1.length<k by simp at hW1;omega
    clear he hs hT BM hr1 hB1 hW1 hst hx hlen hx0;go_wp2_with (first|(go_at_call 62;refine HE.out.mono ?_;rintro e w2 ⟨rfl,hw2⟩;obtain rfl:=hw2.symm)|(go_at_call 81;refine nC.out.mono ?_;rintro e w3 ⟨rfl,d,rfl⟩));have hbd:Below wr.heap.size wr (wr.drewN d).drew:=(below_drewN (aae _ _) _).drew;have yE:Below wr.heap.size wr (wr.drewN (d+1)):=below_drewN (aae _ _) _
    go_region_held3 (fun V=>V.cell? ⟨p,6,none⟩=some (.slice (some ⟨gb,0,none⟩) n n))
     (first|assumption|exact HS.out _ (by first|assumption|exact hbd|exact yE))
     ((go_at_call 63;refine(mX.out _ (by first|assumption|exact hbd|exact yE)).mono ?_;rintro e V1 ⟨rfl,q1,⟨c1,q2⟩,q3,q4,q5⟩))
    all_goals
     have Q5:=ζ q5;clear q5;go_wp2;go_roundw
     case rel=>exact⟨_,by have:=HKL.out;have:=tA.out;omega,Q5.out⟩
     case measure=>exact Ap.out _ _ Q5.out tA.out
end
end
end Go.Proofs.YtbhdibflpjhpaaaGreat
