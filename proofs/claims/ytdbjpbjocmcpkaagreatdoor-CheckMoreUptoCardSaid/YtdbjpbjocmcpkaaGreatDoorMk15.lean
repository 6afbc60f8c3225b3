import Derived.Test.YtdbjpbjocmcpkaaGreatDoorMk14
set_option maxHeartbeats 16000000
set_option maxRecDepth 100000
namespace Go.Proofs.YtdbjpbjocmcpkaaGreatDoor
section
open Go.RowKit Go.Sort
def eC (v:Nat) (c:Int) (hs:List (List Int)) (w:World) (e:Ending) (w':World):Prop:=
 Below w.heap.size w w'/\((c=0/\∃r rs,e= .returned r/\ay w' w.heap.size r rs hs)\/(c≠0/\e= .panicked [{ v:=cG v c,recovered:=false }]))
structure VS (W:World) (w:World) (B1 B2 p gd gs q gf ga gl N:Nat) (ao:Option Addr) (ca:Nat) (es:List (Int×Int)) (f:Nat->Bool) (F An D:List Int) (vs:List Value) (rs:List (List Int)):Prop where
 rd:fM W w.heap.size p gd gs N ao ca es f
 fi:dR W B1 q gf ga gl N ao ca es F An D
 rw:ay W B2 (.slice (some ⟨B2,0,none⟩) N N) vs rs
 low:Below w.heap.size w W
 r1:p<B1/\gd<B1/\gs<B1
 r2:q<B2/\gf<B2/\ga<B2/\gl<B2
 r3:w.heap.size<=B1/\B1<=B2
section
variable {W W' w:World} {B1 B2 p gd gs q gf ga gl N:Nat} {ao:Option Addr} {ca:Nat} {es:List (Int×Int)} {f:Nat->Bool} {F An D:List Int} {vs:List Value} {rs:List (List Int)}
theorem VS.later (h:VS W w B1 B2 p gd gs q gf ga gl N ao ca es f F An D vs rs) (hb:Below W.heap.size W W'):VS W' w B1 B2 p gd gs q gf ga gl N ao ca es f F An D vs rs:=
 ⟨h.rd.later hb,h.fi.later hb,h.rw.later hb,h.low.trans (hb.mono h.low.size),h.r1,h.r2,h.r3⟩
theorem VS.Rv (h:VS W w B1 B2 p gd gs q gf ga gl N ao ca es f F An D vs rs):B2<W.heap.size:=(aaJ h.rw.outer B2 rfl).2
theorem VS.below {B:Nat} (h:VS W w B1 B2 p gd gs q gf ga gl N ao ca es f F An D vs rs) (hb:Below B W W') (hB:B2<B) (dw:∀(a:Nat) (y:Value) (b:Nat),vs[a]? =some y->y.ownBlock=some b->b<B):VS W' w B1 B2 p gd gs q gf ga gl N ao ca es f F An D vs rs:=by
 have h1:=h.r1;have h2:=h.r2;have h3:=h.r3;have h4:=h.low.size;refine⟨h.rd.keep fun b hq=>hb.block b (by omega),h.fi.keep fun b hq=>hb.block b (by omega),?_,h.low.trans (hb.mono (by omega)),h.r1,h.r2,h.r3⟩;refine h.rw.kept fun b hq _=> ?_
 rcases hq with hq|⟨u,x,hx,hxb⟩
 .obtain rfl:B2=b:=by simpa[Value.ownBlock] using hq
  exact hb.block _ hB
 .exact hb.block b (dw u x b hx hxb)
theorem VS.marked {f':Nat->Bool} (h:VS W w B1 B2 p gd gs q gf ga gl N ao ca es f F An D vs rs) (hw:aj (fun b=>b=gs) W W') (hr:fM W' w.heap.size p gd gs N ao ca es f'):VS W' w B1 B2 p gd gs q gf ga gl N ao ca es f' F An D vs rs:=by
 have h1:=h.r1;have h2:=h.r2;have h3:=h.r3;have h4:=h.fi.lo;have hb:=hw.below h.low.size (B:=w.heap.size) (fun k hk=>by rw[hk];exact h.rd.lo.2.2);have hl:=h.Rv;refine⟨hr,h.fi.keep fun b hq=>hw.block b ?_ ?_,h.rw.kept fun b hq hb2=>hw.block b hb2 ?_,h.low.trans hb,h.r1,h.r2,h.r3⟩
 .omega
 .show ¬b=gs
  omega
 .show ¬b=gs
  rcases hq with hq|⟨u,x,hx,hxb⟩
  .obtain rfl:B2=b:=by simpa[Value.ownBlock] using hq
   omega
  .obtain⟨k,hk⟩:=h.rw.at hx
   have:=(aaJ (h.rw.row u x k hx hk) b hxb).1;omega
theorem VS.told {D':List Int} (h:VS W w B1 B2 p gd gs q gf ga gl N ao ca es f F An D vs rs) (hw:aj (fun b=>b=gl) W W') (hf:dR W' B1 q gf ga gl N ao ca es F An D'):VS W' w B1 B2 p gd gs q gf ga gl N ao ca es f F An D' vs rs:=by
 have h1:=h.r1;have h2:=h.r2;have h3:=h.r3;have h4:=h.fi.lo;have hb:=hw.below h.low.size (B:=w.heap.size) (fun k hk=>by rw[hk];omega);have hl:=h.Rv;refine⟨h.rd.keep fun b hq=>hw.block b ?_ ?_,hf,h.rw.kept fun b hq hb2=>hw.block b hb2 ?_,h.low.trans hb,h.r1,h.r2,h.r3⟩
 .omega
 .show ¬b=gl
  omega
 .show ¬b=gl
  rcases hq with hq|⟨u,x,hx,hxb⟩
  .obtain rfl:B2=b:=by simpa[Value.ownBlock] using hq
   omega
  .obtain⟨k,hk⟩:=h.rw.at hx
   have:=(aaJ (h.rw.row u x k hx hk) b hxb).1;omega
end
theorem eC.bad {n:Int} {es:List (Int×Int)} {hs:List (List Int)} {w w':World} {v:Nat} {c:Int} (hb:Below w.heap.size w w') (h:Ro.check n es hs=(v,c)) (hc:c≠0):eC (Ro.check n es hs).1 (Ro.check n es hs).2 hs w (.panicked [{ v:=cG v c,recovered:=false }]) w':=by
 refine⟨hb,.inr ?_⟩;rw[h];exact⟨hc,rfl⟩
theorem qQ (n:Int) (ao:Option Addr) (ca:Nat) (es:List (Int×Int)) (xo:Option Addr) (xc:Nat) (ls:List (List Int)) (w:World) (he:ah w ao es) (hl:es.length<=4611686018427387904) (hx:bu w xo ls):
 Calls Tryz.prog 139 #[aD n ao es.length ca,.slice xo ls.length xc] w (eC (Ro.check n es (Ro.hls es 0 ls)).1 (Ro.check n es (Ro.hls es 0 ls)).2 (Ro.hls es 0 ls) w):=by
 obtain⟨i0,hi,hz0,hz1,hz2⟩:=info_parts Tryz.rj;obtain⟨i1,hi1,hy0,hy1,hy2⟩:=info_parts Tryz.ck;have hb0:Below w.heap.size w (w.alloc (.cells #[.int .i64 n,.slice ao es.length ca] 24)):=(aaE _ _).alloc (aaD _) _;have HN:=ζ (mR n ao ca es ls.length _ (he.later hb0) hl);have aW:=ζ hb0;have HE:=ζ he;have HX:=ζ hx;have ze:=ζ (Ro.xM es 0 ls);unfold aD at HN ⊢;clear he hb0 hx;go_enter Tryz.func139,Tryz.ntmps139;go_wp2_with (go_at_call 197;refine HN.out.mono ?_;refine aaH ?_);refine ζ ?_;rintro e w1 ⟨hb1,hp⟩;have aN:=ζ (aW.out.trans (hb1.mono aW.out.size));have hs1:=hb1.size;rw[aa1] at hs1;have qd:w1.heap[w.heap.size]? =some (.cells #[.int .i64 n,.slice ao es.length ca] 24 (0,0)):=(hb1.block _ (by simp)).trans (heap_alloc_new w _);have gu:=ζ qd;clear hb1 qd;rcases hp with ⟨hv,rfl⟩|⟨hv,hk,rfl⟩|⟨hv,rfl,p,gd,gs,rfl,hr⟩
 .exact⟨rfl,eC.bad aN.out (by simp[Ro.check,hv]) (by decide)⟩
 .exact⟨rfl,eC.bad aN.out (by simp[Ro.check,hv,ze.out,hk]) (by decide)⟩
 have hck:Ro.check (ls.length:Int) es (Ro.hls es 0 ls)=Ro.iD es 0 (Ro.hls es 0 ls):=by simp[Ro.check,hv,ze.out]
 have hval:=Si.aJ.1 hv;have ko:=ζ hck;have iB:=ζ hval;have hlb:=hval.hi;have dA:=hval.few;have hrd:fM w1 w.heap.size p gd gs ls.length ao ca es (fun _=>false):=⟨hr.blk,hr.fE,hr.Da,⟨by have:=hr.lo.1;simp at this;omega,by have:=hr.lo.2.1;simp at this;omega,by have:=hr.lo.2.2;simp at this;omega⟩,hr.ne⟩;have HR:=ζ hrd;have hr1:p<w1.heap.size/\gd<w1.heap.size/\gs<w1.heap.size:=⟨lt_of_block hrd.blk,hrd.fE.lt,hrd.Da.lt⟩;have yT:=ζ hr1;have WL:=ζ (xg ls.length ao ca es w1 (HE.out.later aN.out) hval);obtain⟨g0,g1,-⟩:=af gu.out;clear hr hv hck hval hrd hr1;go_wp2_with (go_at_call 202;refine WL.out.mono ?_;refine aaH ?_);refine ζ ?_;rintro e w2 ⟨q,gf,ga,gl,F,An,rfl,j6,Nj,hb2⟩;have qz:=ζ Nj;have hF2:=j6;have aC:=ζ (aN.out.trans (hb2.mono aN.out.size));have hr2:q<w2.heap.size/\gf<w2.heap.size/\ga<w2.heap.size/\gl<w2.heap.size:=⟨lt_of_block j6.blk,j6.first.lt,j6.another.lt,j6.leading.lt⟩;have FB:=ζ hr2;have rP:=ζ (HR.out.later hb2);have Q3:=ζ j6;have hs2:=hb2.size;clear j6 Nj hb2 hF2 hr2 g0 g1 HR WL HN;go_wp2_with (at_make;refine wpList_make_full _ rfl _ _ 50 rfl w2.heap.size 55 i0 (.slice none 0 0) 1 Tryz.underlying50 hi hz0 hz1 _ _ _ _ ls.length rfl rfl rfl rfl (by rw[hz2];omega) (by unfold maxLen;omega) (aaD _) ?_;refine aaH ?_);refine ζ ?_;intro w3 hrow hg3;have xL:=ay.made hrow;have hb3:Below w2.heap.size w2 w3:=(aaE _ _).grown hg3 (aaD _) (fun j hj=>by cases hj);have rO:Hid (VS w3 w w1.heap.size w2.heap.size p gd gs q gf ga gl ls.length ao ca es (fun _=>false) F An (List.replicate ls.length (-1)) (List.replicate ls.length (.slice none 0 0)) (Ro.fill id (Ro.hls es 0 ls) 0)):=by
  refine⟨rP.out.later hb3,Q3.out.later hb3,?_,aC.out.trans (hb3.mono aC.out.size),yT.out,FB.out,⟨by omega,hs2⟩⟩;rw[Ro.Hh,ze.out];exact xL
 have Q0:=ζ (Ro.Ld.start ls.length es);clear hrow hg3 hb3 xL rP Q3 aC yT FB gu;go_wp2;go_loopw [25] (fun c wr=>∃(k:Nat) (f:Nat->Bool) (DD D:List Int) (vs:List Value),k<=ls.length/\c= .int .i64 (k:Int)/\Ro.iD es 0 (Ro.hls es 0 ls)=Ro.iD es k ((Ro.hls es 0 ls).drop k)/\Ro.Sd es f k DD []/\Ro.Ld ls.length es k (2*es.length) D/\VS wr w w1.heap.size w2.heap.size p gd gs q gf ga gl ls.length ao ca es f F An D vs (Ro.fill id (Ro.hls es 0 ls) k)) (fun c _=>ls.length-(intOf c).toNat)
 case atStart=>exact⟨0,_,[],_,_,aaL _,rfl,rfl,Ro.Sd.start es,Q0.out,rO.out⟩
 case round=>
  clear rO Q0;obtain⟨k,f,DD,D,vs,hk,rfl,hch,xK,Ek,hvs⟩:=hrel;obtain⟨W0,rfl⟩:∃W0,W0=wr:=⟨_,rfl⟩;have nQ:=ζ hch;have kg:=ζ xK;have FL:=ζ Ek;have rO:=ζ hvs;clear hch xK Ek hvs;by_cases hlt:k<ls.length
  .have aX:(k:Int)<(ls.length:Int):=by omega
   have hk0:(0:Int)<=(k:Int):=by omega
   obtain⟨l,hlk⟩:∃l,ls[k]? =some l:=⟨_,aaC hlt⟩;obtain⟨b,o,A,C,rfl,hc,hL,lO,-⟩:=HX.out k l hlk;have hbl:b<w.heap.size:=block_lt_of_cell hc;have hcr:=(rO.out.low.cell (p:=⟨b,o+k,none⟩) hbl).trans hc;have HL:=ζ hL;have G2:=Ro.vH (es:=es) (k:=0) hlk;rw[aa7] at G2;have gX:=ζ G2;obtain⟨p1,sR⟩:∃p1,l.length=p1:=⟨_,rfl⟩;rw[sR] at hcr lO;have NV:=ζ sR;obtain⟨c0,c1,c2,c3,-⟩:=jR rO.out.rd.blk;have Eu:(Si.eA (ls.length:Int) es)[k]? =some (Ro.fE es k:Int):=by
    have:=Cs.tv iB.out es.length (aaD _) k hlt;rw[abn] at this;exact this
   have VX:=rO.out.rd.fE.cell Eu;have hdb:Ro.fE es k<=8388608:=by
    have:=Cs.ud (es:=es) (v:=k) (2*es.length);unfold Ro.fE;omega
   obtain⟨dg,M3⟩:∃dg,dg=Ro.fE es k:=⟨_,rfl⟩;rw[<-M3] at VX hdb;have Oh:=ζ M3;have hin:=rO.out.Rv;have dw:∀(a:Nat) (y:Value) (b:Nat),vs[a]? =some y->y.ownBlock=some b->b<W0.heap.size:=fun a y b hy hb=>by
    obtain⟨kk,hkk⟩:=rO.out.rw.at hy;exact(aaJ (rO.out.rw.row a y kk hy hkk) b hb).2
   have dP:=ζ dw;clear hc hL hlk G2 sR Eu M3 dw;go_wp2_with (at_make;refine wpList_make_own _ rfl _ _ 55 rfl W0.heap.size 3 i1 (.int .i64 0) 1 Tryz.underlying55 hi1 hy0 hy1 _ _ _ dg rfl rfl rfl (by rw[hy2];omega) (by unfold maxLen;omega) (aaD _) ?_;refine aaH ?_);refine ζ ?_;intro w4 B7 hg4;have hb4:Below W0.heap.size W0 w4:=(aaE _ _).grown hg4 (aaD _) (fun j hj=>by cases hj);have pJ:=rO.out.later hb4;have UU:=pJ.fi.lo;have UB:=pJ.r3;have Lt:=ζ (Nr w.heap.size q gf ga gl ls.length ao ca es F An D k w w4 ⟨pJ.fi.blk,pJ.fi.first,pJ.fi.another,pJ.fi.leading,⟨by omega,by omega,by omega,by omega⟩,pJ.fi.ne⟩ qz.out FL.out HE.out rfl pJ.low iB.out hlt);have NL:=ζ pJ;have PU:Hid (av w4 W0.heap.size (.slice (some ⟨W0.heap.size,0,none⟩) 0 dg) []):=B7;have eZ:=ζ hb4;clear B7 hg4 hb4 pJ UU UB c0 c1 c2 c3 VX;go_wp2_with (go_at_call 203;refine Lt.out.mono ?_;refine aaH ?_);refine ζ ?_;rintro e w5 ⟨rfl,Kv,D5,KD,Ql⟩;have GX:gl<W0.heap.size:=by have:=rO.out.r2;omega
   have Qb:=NL.out.told Kv ⟨KD.blk,KD.first,KD.another,KD.leading,NL.out.fi.lo,KD.ne⟩;have WD:Hid (av w5 W0.heap.size (.slice (some ⟨W0.heap.size,0,none⟩) 0 dg) []):=PU.out.same fun g hg hg2=>Kv.block g hg2 (by
    show ¬g=gl;obtain rfl:W0.heap.size=g:=by simpa[Value.ownBlock] using hg
    omega)
   have N6:=ζ Ql;have QL:=ζ Qb;have hs5:W0.heap.size<=w5.heap.size:=aaM eZ.out.size Kv.size;clear Kv KD Ql Qb Lt NL PU eZ hcr;go_wp2;go_loopw [10,43] (fun c5 c6 wr=>∃(i:Nat) (f:Nat->Bool),i<=p1/\c6= .int .i64 (i:Int)/\Ro.gi es k [] (l.map (Ro.hl es k))=Ro.gi es k ((l.map (Ro.hl es k)).take i) ((l.map (Ro.hl es k)).drop i)/\Ro.Sd es f k DD ((l.map (Ro.hl es k)).take i)/\av wr W0.heap.size c5 ((l.map (Ro.hl es k)).take i)/\VS wr w w1.heap.size w2.heap.size p gd gs q gf ga gl ls.length ao ca es f F An D5 vs (Ro.fill id (Ro.hls es 0 ls) k)/\W0.heap.size<=wr.heap.size) (fun _ c6 _=>p1-(intOf c6).toNat)
   case atStart=>exact⟨0,f,aaL _,rfl,rfl,kg.out,WD.out,QL.out,hs5⟩
   case round=>
    clear WD QL kg hs5;obtain⟨i,f,hi,rfl,hel,xK,ho,hvs,hsw⟩:=hrel;have CP:=ζ hel;have kg:=ζ xK;have HO:=ζ ho;have mj:=ζ hvs;obtain⟨ro,rc,VV,-,-⟩:=ho.form;subst VV;generalize hrl:((l.map (Ro.hl es k)).take i).length=rl at*;have Wo:Hid (rl=i):=by show _=_;rw[<-hrl,abq,aaP,NV.out];omega
    have Za:=ζ hrl;clear hel xK ho hvs hrl;by_cases hil:i<p1
    .have MT:(i:Int)<(p1:Int):=by omega
     have xO:(0:Int)<=(i:Int):=by omega
     obtain⟨x,mX⟩:∃x,l[i]? =some x:=⟨_,aaC (by have:=NV.out;omega)⟩;obtain⟨lb,lo',rfl,lc⟩:=(HL.out.later mj.out.low).elem mX;have eI:(l.map (Ro.hl es k))[i]? =some (Ro.hl es k x):=by rw[aaY,mX];rfl
     have yX:=ζ eI;have NM:=ζ (Nn w1.heap.size q gf ga gl ls.length ao ca es F An D5 x wr mj.out.fi N6.out.len);obtain⟨h,hh⟩:∃h,h=Ro.toF ls.length D5 x:=⟨_,rfl⟩;have fq:=N6.out.to iB.out x;rw[<-hh] at NM fq;have PZ:=ζ fq;have HST:=ζ (wu w.heap.size p gd gs ls.length ao ca es f k h wr mj.out.rd (HE.out.later mj.out.low) iB.out);clear mX eI hh fq;go_wp2_with (go_at_call 204;refine NM.out.mono ?_;rintro e w6 ⟨rfl,RA⟩;obtain rfl:=RA.symm;refine aaH ?_);refine ζ ?_;clear NM;go_wp2_with (go_at_call 198;refine HST.out.mono ?_;refine aaH ?_);refine ζ ?_;rintro e w7 ⟨Mq,hp⟩;have M9:=Mq.below mj.out.low.size (B:=w.heap.size) (fun k hk=>by rw[hk];exact mj.out.rd.lo.2.2);have z7:=ζ (mj.out.low.trans M9);rcases hp with ⟨hlv,rfl⟩|⟨hlv,hf,rfl⟩|⟨hlv,hf,rfl,RP⟩
     .refine⟨rfl,eC.bad z7.out ?_ (by decide)⟩
      rcases PZ.out with ⟨h1,-⟩|⟨-,h2⟩
      .rw[hlv] at h1;cases h1
      .rw[ko.out,nQ.out,Ro.drop_cons gX.out]
       exact Ro.jw (Ro.qF (by rw[CP.out,Ro.drop_cons yX.out,Ro.tq h2]) (by decide)) (by decide)
     .refine⟨rfl,eC.bad z7.out ?_ (by decide)⟩
      rcases PZ.out with ⟨-,h2,j,-,h3⟩|⟨h1,-⟩
      .rw[<-h2,h3] at yX
       rw[h3] at hlv hf;rw[abb] at hf;rw[ko.out,nQ.out,Ro.drop_cons gX.out];exact Ro.jw (Ro.qF (by rw[CP.out,Ro.drop_cons yX.out,Ro.qi hlv ((kg.out.twice hlv).1 hf)]) (by decide)) (by decide)
      .rw[hlv] at h1;cases h1
     .rcases PZ.out with ⟨-,h2,j,-,h3⟩|⟨h1,-⟩
      case inr=>rw[hlv] at h1;cases h1
      rw[<-h2,h3] at yX;subst h3;rw[abb] at hf RP;have Od:=ζ (show Ro.gi es k [] (l.map (Ro.hl es k))=Ro.gi es k ((l.map (Ro.hl es k)).take (i+1)) ((l.map (Ro.hl es k)).drop (i+1)) by
       rw[CP.out,Ro.drop_cons yX.out,Ro.vJ hlv (fun hm=>by have h5:=(kg.out.twice hlv).2 hm;rw[h5] at hf;cases hf),Ro.gF yX.out])
      have Fz:=ζ (show Ro.Sd es (Co.bB f j true) k DD ((l.map (Ro.hl es k)).take (i+1)) by rw[Ro.gF yX.out];exact kg.out.put hlv);have Wd:=ζ (mj.out.marked Mq RP);have Zl:Hid (av w7 W0.heap.size (.slice ro rl rc) ((l.map (Ro.hl es k)).take i)):=HO.out.same fun g hg hg2=>Mq.block g hg2 (by
       show ¬g=gs;have h6:=(aaJ HO.out g hg).1;have h7:=mj.out.r1;have h8:=mj.out.r3;omega)
      have Ux:W0.heap.size<=w7.heap.size:=aaM hsw Mq.size;have yQ:=ζ (Ro.gF yX.out);clear hlv hf RP Mq M9 h2 PZ HST;go_wp2_with (at_builtin;refine eG rfl _ _ rfl w7 W0.heap.size _ ((l.map (Ro.hl es k)).take i) (j:Int) Zl.out Ux (by rw[Za.out,Wo.out];omega) rfl rfl ?_;refine aaH ?_);refine ζ ?_;intro v' w' ho' _ _ hb';have Zn:=ζ (show av w' W0.heap.size v' ((l.map (Ro.hl es k)).take (i+1)) by rw[yQ.out];exact ho');have Y5:=ζ (Wd.out.below hb' hin dP.out);have hs':W0.heap.size<=w'.heap.size:=aaM Ux hb'.size;clear ho' hb';go_wp2;go_roundw
      case rel=>exact⟨i+1,_,by omega,by go_num,Od.out,Fz.out,Zn.out,Y5.out,hs'⟩
      case measure=>simp[intOf];omega
    .have MT:¬(i:Int)<(p1:Int):=by omega
     obtain rfl:i=p1:=by omega
     have qc:(l.map (Ro.hl es k)).length=i:=by rw[aaP];exact NV.out
     have FO:=ζ (show Ro.gi es k [] (l.map (Ro.hl es k))=0 by rw[CP.out,abZ (by omega)];rfl);have FE:Hid (av wr W0.heap.size (.slice ro rl rc) (l.map (Ro.hl es k))):=by
      have:=HO.out;rw[aa3 (by omega)] at this;exact this
     have Wm:Hid (Ro.Sd es f (k+1) (DD++(l.map (Ro.hl es k)).take i) []):=kg.out.next
     have jI:=ζ qc;have TA:=ζ (Ar w.heap.size p gd gs ls.length ao ca es f k i wr mj.out.rd iB.out hlt);have hfl:(Ro.fill id (Ro.hls es 0 ls) k).length=ls.length:=by rw[Ro.KQ _ _ (by rw[ze.out];omega),ze.out]
     obtain⟨⟨y,hy⟩,hfr,hst,fZ⟩:=mj.out.rw.OH hfl hlt hin dP.out FE.out (by omega);rw[show(Ro.fill id (Ro.hls es 0 ls) k).set k (l.map (Ro.hl es k))=Ro.fill id (Ro.hls es 0 ls) (k+1) from Ro.KP (f:=id) gX.out] at hst;have HST:=ζ hst;have Om:=ζ fZ;clear qc hst fZ hfl;go_wp2_with (go_at_call 199;refine TA.out.mono ?_;refine aaH ?_);refine ζ ?_;rintro e w6 ⟨RA,hp⟩;obtain rfl:=RA.symm;rcases hp with ⟨hd,rfl⟩|⟨hd,rfl⟩
     .refine⟨rfl,eC.bad mj.out.low ?_ (by decide)⟩
      rw[ko.out,nQ.out,Ro.drop_cons gX.out];exact Ro.jw (Ro.qE FO.out (by rw[jI.out];exact hd)) (by decide)
     .have Oi:=ζ (show Ro.iD es 0 (Ro.hls es 0 ls)=Ro.iD es (k+1) ((Ro.hls es 0 ls).drop (k+1)) by
       rw[nQ.out,Ro.drop_cons gX.out,Ro.Ct (Ro.Bj FO.out (by rw[jI.out];exact hd))])
      have Y4:Hid (VS (wr.setCell ⟨w2.heap.size,k,none⟩ (.slice ro rl rc)) w w1.heap.size w2.heap.size p gd gs q gf ga gl ls.length ao ca es f F An D5 (vs.set k (.slice ro rl rc)) (Ro.fill id (Ro.hls es 0 ls) (k+1))):=by
       have h1:=mj.out.r1;have h2:=mj.out.r2;have h3:=mj.out.r3;exact⟨mj.out.rd.keep fun b hq=>Om.out.block b (by omega),mj.out.fi.keep fun b hq=>Om.out.block b (by omega),HST.out,mj.out.low.trans (Om.out.mono (by omega)),h1,h2,h3⟩
      have WU:=ζ N6.out.next
      clear hd;go_wp2;go_roundw
      case rel=>exact⟨k+1,f,_,D5,_,by omega,by go_num,Oi.out,Wm.out,WU.out,Y4.out⟩
      case measure=>simp[intOf];omega
  .have aX:¬(k:Int)<(ls.length:Int):=by omega
   obtain rfl:k=ls.length:=by omega
   have FT:Hid ((Ro.check (ls.length:Int) es (Ro.hls es 0 ls)).2=0):=by
    show _=_;rw[ko.out,nQ.out,abZ (by rw[ze.out];exact aaD _)];rfl
   have yT:Hid (ay W0 w.heap.size (.slice (some ⟨w2.heap.size,0,none⟩) ls.length ls.length) vs (Ro.hls es 0 ls)):=by
    have h1:=rO.out.rw;have h2:=rO.out.r3;have e1:Ro.fill id (Ro.hls es 0 ls) ls.length=Ro.hls es 0 ls:=by
     rw[<-ze.out,Ro.KS];simp
    rw[e1] at h1;exact h1.lower (by omega)
   go_wp2;go_ret;exact⟨rO.out.low,.inl ⟨FT.out,_,vs,rfl,yT.out⟩⟩
end
section
open Go.Proofs.Tryz
open Go.RowKit Go.Sort
def Ox (n:Int) (es:List (Int×Int)) (ls:List (List Int)) (b:Nat) (w:World) (e:Ending) (w':World):Prop:=
 aj (fun k=>k=b) w w'/\(((Ro.check n es (Ro.hls es 0 ls)).2=0/\e= .returned (.tuple #[])/\∃r rs,w'.heap[b]? =some (.cells #[r] 50 (0,0))/\ay w' w.heap.size r rs (Ro.hls es 0 ls))\/
  ((Ro.check n es (Ro.hls es 0 ls)).2≠0/\e= .panicked [{ v:=cG (Ro.check n es (Ro.hls es 0 ls)).1 (Ro.check n es (Ro.hls es 0 ls)).2,recovered:=false }]/\w'.heap[b]? =some (.cells #[.slice none 0 0] 50 (0,0))))
theorem G8 (n:Int) (ao:Option Addr) (ca:Nat) (es:List (Int×Int)) (xo:Option Addr) (xc:Nat) (ls:List (List Int)) (b:Nat) (w:World) (he:ah w ao es) (hl:es.length<=4611686018427387904) (hx:bu w xo ls)
 (hg:w.heap[b]? =some (.cells #[.int .i64 n,.slice ao es.length ca] 24 (0,0))) (hr:w.heap[b+1]? =some (.cells #[.slice xo ls.length xc] 25 (0,0))) (cR:w.heap[b+2]? =some (.cells #[.slice none 0 0] 50 (0,0))):
 Calls prog 138 #[.pointer (some ⟨b,0,none⟩),.pointer (some ⟨b+1,0,none⟩),.pointer (some ⟨b+2,0,none⟩)] w (Ox n es ls (b+2) w):=by
 obtain⟨g0,g1,-⟩:=af hg;have r0:=cell_of_one hr;have HH:=ζ (qQ n ao ca es xo xc ls w he hl hx);have mC:=ζ cR;unfold aD at HH;clear he hx hg hr cR;go_enter func138,ntmps138;go_wp2_with (go_at_call 139;refine HH.out.mono ?_;refine aaH ?_);refine ζ ?_;rintro e w1 ⟨hb,hp⟩;have hB1:=(hb.block _ (lt_of_block mC.out)).trans mC.out;rcases hp with ⟨hc,r,rs,rfl,lM⟩|⟨hc,rfl⟩
 .obtain⟨ro,rc,rfl⟩:=bJ lM
  have k0:=cell_of_one hB1;have f0:=free_of_one hB1;have HB:=ζ hb;have HC:=ζ hc;have vw:=ζ lM;have aN:=ζ hB1;have mK:=ζ (lt_of_block mC.out);generalize hq:(Ro.hls es 0 ls).length=ql at*;clear hb hc lM hB1;go_wp2
  go_end0
  refine⟨((aj.refl (fun k=>k=b+2) w).later HB.out).setCell (b:=b+2) rfl _,.inl ⟨HC.out,rfl,_,rs,one_setCell aN.out,?_⟩⟩;refine vw.out.kept fun g hg hg2=>eJ ?_ _
  have h1:=mK.out;rcases hg with hg|⟨u,x,hx,hxb⟩
  .have:=(aaJ vw.out.outer g hg).1
   omega
  .obtain⟨k,hk⟩:=vw.out.at hx
   have:=(aaJ (vw.out.row u x k hx hk) g hxb).1;omega
 .exact⟨rfl,(aj.refl _ _).later hb,.inr ⟨hc,rfl,hB1⟩⟩
theorem EL:∀(args:Array Value) (w:World),(callFunc 138 args).run prog w= .ok (.enter 138 args) w:=enters_of func138 (by kernel_rfl) rfl
theorem EJ (n:Int) (ao:Option Addr) (ca:Nat) (es:List (Int×Int)) (xo:Option Addr) (xc:Nat) (ls:List (List Int)) (w:World) (he:ah w ao es) (hl:es.length<=4611686018427387904) (hx:bu w xo ls):
 Calls prog 94 #[aD n ao es.length ca,.slice xo ls.length xc] w (CU n es ls w):=by
 have RU:∀(fn:Fn) (first cap:Array Value) (w:World),(Instr.makeFunc fn first cap).run prog w= .ok (.func fn first cap) w:=fun _ _ _ _=>rfl
 obtain⟨W0,hW0⟩:∃W,W=((w.alloc (.cells #[.int .i64 n,.slice ao es.length ca] 24)).alloc (.cells #[.slice xo ls.length xc] 25)).alloc (.cells #[.slice none 0 0] 50):=⟨_,rfl⟩;have hb0:Below w.heap.size w W0:=by rw[hW0];exact(((aaE _ _).alloc (aaD _) _).alloc (by simp) _).alloc (by simp;omega) _
 have hs0:W0.heap.size=w.heap.size+3:=by rw[hW0];simp
 have hg:W0.heap[w.heap.size]? =some (.cells #[.int .i64 n,.slice ao es.length ca] 24 (0,0)):=by
  rw[hW0,aaO _ _ _ (by simp;omega),aaO _ _ _ (by simp)];exact heap_alloc_new w _
 have hr:W0.heap[w.heap.size+1]? =some (.cells #[.slice xo ls.length xc] 25 (0,0)):=by
  rw[hW0,aaO _ _ _ (by simp)];exact alloc_at (by simp)
 have cR:W0.heap[w.heap.size+2]? =some (.cells #[.slice none 0 0] 50 (0,0)):=by
  rw[hW0];exact alloc_at (by simp)
 obtain⟨Wc,Nc⟩:∃Wc,Wc=W0.alloc (.cells #[.int .i64 0,.int .i64 0] 233):=⟨_,rfl⟩;have hb1:Below W0.heap.size W0 Wc:=by rw[Nc];exact(aaE _ _).alloc (aaD _) _
 have hsc:Wc.heap.size=w.heap.size+4:=by rw[Nc];simp[hs0]
 have Qq:kE Wc W0.heap.size 0 0:=by rw[Nc];exact heap_alloc_new W0 _
 have hc1:=G8 n ao ca es xo xc ls w.heap.size Wc ((he.later hb0).later hb1) hl ((hx.later hb0).later hb1) ((hb1.block _ (by omega)).trans hg) ((hb1.block _ (by omega)).trans hr) ((hb1.block _ (by omega)).trans cR)
 have hca:=uM 138 #[.pointer (some ⟨w.heap.size,0,none⟩),.pointer (some ⟨w.heap.size+1,0,none⟩),.pointer (some ⟨w.heap.size+2,0,none⟩)]
  (fun W=>(Ro.check n es (Ro.hls es 0 ls)).2=0/\Below w.heap.size w W/\w.heap.size+3<W.heap.size/\∃r rs,W.heap[w.heap.size+2]? =some (.cells #[r] 50 (0,0))/\ay W (w.heap.size+4) r rs (Ro.hls es 0 ls))
  (fun v c W=>v=(Ro.check n es (Ro.hls es 0 ls)).1/\c=(Ro.check n es (Ro.hls es 0 ls)).2/\c≠0/\Below w.heap.size w W/\w.heap.size+3<W.heap.size/\W.heap[w.heap.size+2]? =some (.cells #[.slice none 0 0] 50 (0,0))) W0 EL
  (by
    rw[<-Nc];refine hc1.mono ?_;rintro e w2 ⟨hw2,hp⟩;have cm:Below w.heap.size w w2:=by
     have h1:=hb0.trans (hb1.mono hb0.size);exact h1.trans (hw2.below h1.size fun k hk=>by rw[hk];omega)
    have hsz:w.heap.size+3<w2.heap.size:=by have:=hw2.size;omega
    refine⟨(hw2.block W0.heap.size (by omega) (by show ¬W0.heap.size=w.heap.size+2;omega)).trans Qq,?_⟩;rcases hp with ⟨h0,rfl,r,rs,h1,h2⟩|⟨h0,rfl,h1⟩
    .rw[hsc] at h2
     exact .inl ⟨rfl,h0,cm,hsz,r,rs,h1,h2⟩
    .exact .inr ⟨_,_,rfl,rfl,rfl,h0,cm,hsz,h1⟩)
 have kD:=ζ hca;have zU:=ζ hs0;unfold aD;clear he hx hg hr cR hb1 hc1 hca hb0 hs0 Nc hsc Qq;rw[hW0] at kD;have HW:=ζ hW0;clear hW0;go_enter func94,ntmps94;go_wp2_with (go_at_call 132;refine kD.out.mono ?_;refine aaH ?_);refine ζ ?_;rintro e w1 ⟨W1,hp,hw⟩;have KI:=HW.out;rw[<-KI] at hw;rw[zU.out] at hw;rcases hp with ⟨⟨h0,hb,hsz,r,rs,h1,h2⟩,rfl⟩|⟨v,c,⟨hv,hc,h0,hb,hsz,h1⟩,rfl⟩
 .have hb2:Below w.heap.size w w1:=hb.trans (hw.below hb.size fun k hk=>by rw[hk];omega)
  have nr:=(hw.block (w.heap.size+2) (by omega) (by show ¬w.heap.size+2=w.heap.size+3;omega)).trans h1;have Mx:ay w1 (w.heap.size+4) r rs (Ro.hls es 0 ls):=h2.kept fun g hg hg2=>hw.block g hg2 (by
   show ¬g=w.heap.size+3;rcases hg with hg|⟨u,x,hx,hxb⟩
   .have:=(aaJ h2.outer g hg).1
    omega
   .obtain⟨k,hk⟩:=h2.at hx
    have:=(aaJ (h2.row u x k hx hk) g hxb).1;omega)
  obtain⟨ro,rc,rfl⟩:=bJ Mx;have k0:=cell_of_one nr;have vw:=ζ Mx;have aC:=ζ hb2;have H0:=ζ h0;generalize hq:(Ro.hls es 0 ls).length=ql at*;have Qj:=lt_of_block nr;clear hw hb hsz h1 h2 h0 hb2 nr Mx KI hq;go_wp2
  go_region
  go_wp2
  go_ret3
  refine⟨(aC.out.alloc aC.out.size _).drew,.inr ⟨H0.out,_,rs,rfl,?_⟩⟩;exact((vw.out.later ((aaE _ _).alloc (aaD _) _)).later (aaE _ _).drew).lower (by omega)
 .have hb2:Below w.heap.size w w1:=hb.trans (hw.below hb.size fun k hk=>by rw[hk];omega)
  have nr:=(hw.block (w.heap.size+2) (by omega) (by show ¬w.heap.size+2=w.heap.size+3;omega)).trans h1;have k0:=cell_of_one nr;have aC:=ζ hb2;have H0:=ζ h0;have HV:=ζ hv;have HC:=ζ hc;have Qj:=lt_of_block nr;clear hw hb hsz h1 h0 hb2 nr KI hv hc;go_wp2
  go_region
  go_wp2
  go_ret3
  have hv:=HV.out;have hc:=HC.out;subst hv;refine⟨(aC.out.alloc aC.out.size _).drew,.inl ⟨by rw[<-hc];exact H0.out,?_⟩⟩;rw[<-hc];rfl
end
section
open Go.RowKit Go.Sort
def Si.xF (n:Int) (p:Int×Int):Prop:=(0<=p.1/\p.1<n)/\0<=p.2/\p.2<n
instance (n:Int) (p:Int×Int):Decidable (Si.xF n p):=by unfold Si.xF;infer_instance
def Si.inside (n:Int) (ps:List (Int×Int)):Bool:=ps.all fun p=>decide (Si.xF n p)
theorem Si.Gz {n:Int} {ps:List (Int×Int)} {k:Nat} {p:Int×Int} (h:ps[k]? =some p) (hp:¬Si.xF n p):Si.inside n ps=false:=by
 unfold Si.inside;rw[List.all_eq_false];exact⟨p,aaG h,by simpa using hp⟩
theorem Si.uu {n:Int} {ps:List (Int×Int)} (h:∀(j:Nat) (p:Int×Int),ps[j]? =some p->Si.xF n p):Si.inside n ps=true:=by
 unfold Si.inside;rw[aaV];intro p hp;obtain⟨j,hj,e⟩:=aaT.1 hp;simpa using h j p (by rw[<-e];exact aaC hj)
theorem Si.GD {n:Int} {ps:List (Int×Int)} (h:Si.inside n ps=true) {j:Nat} {p:Int×Int} (hj:ps[j]? =some p):Si.xF n p:=by
 unfold Si.inside at h;rw[aaV] at h;simpa using h p (aaG hj)
def Si.mk (n:Int) (ps:List (Int×Int)):Int×List (Int×Int)×Int:=
 if n<0\/1048576<n\/Si.inside n ps=false then (0,[],2) else if 4194304<(Si.made [] ps).length then (0,[],141) else (n,Si.made [] ps,0)
end
section
open Go.Proofs.Tryz
open Go.RowKit Go.Sort
theorem AK (a b:Int×Int) (w:World):Calls prog 48 #[dx a,dx b] w fun e w'=>e= .returned (.bool (decide (Si.lt a b)))/\∃q os',w'=grow (w.drewN q) os':=by
 unfold dx;by_cases h1:a.1<b.1
 .have hd:decide (Si.lt a b)=true:=by simp[Si.lt,h1]
  rw[hd];go_enter func48,ntmps48;go_wp2;go_ret;exact⟨rfl,0,_,by rw[alloc_eq_grow,alloc_eq_grow,grow_grow];rfl⟩
 .by_cases h2:a.1=b.1
  .by_cases h3:a.2<b.2
   .have hd:decide (Si.lt a b)=true:=by simp[Si.lt,h2,h3]
    rw[hd];go_enter func48,ntmps48;go_wp2;go_ret;exact⟨rfl,0,_,by rw[alloc_eq_grow,alloc_eq_grow,grow_grow];rfl⟩
   .have hd:decide (Si.lt a b)=false:=by simp[Si.lt,h1,h3]
    rw[hd];go_enter func48,ntmps48;go_wp2;go_ret;exact⟨rfl,0,_,by rw[alloc_eq_grow,alloc_eq_grow,grow_grow];rfl⟩
  .have hd:decide (Si.lt a b)=false:=by simp[Si.lt,h1,h2]
   rw[hd];go_enter func48,ntmps48;go_wp2;go_ret;exact⟨rfl,0,_,by rw[alloc_eq_grow,alloc_eq_grow,grow_grow];rfl⟩
theorem dZ {w w':World} (h:∃(q:Nat) (os':Array Obj),w'=grow (w.drewN q) os'):Below w.heap.size w w':=by
 obtain⟨q,os',rfl⟩:=h;exact nw w q os'
end
end Go.Proofs.YtdbjpbjocmcpkaaGreatDoor
