import Derived.Test.YtdbjpbjocmcpkaaGreatDoorMk06
import Derived.BigRegion
import Derived.Deep.RegionLaw
import Derived.Deep.CutBlock
import Derived.Deep.CutRange
set_option maxHeartbeats 8000000
set_option maxRecDepth 100000
namespace Go.Proofs.YtdbjpbjocmcpkaaGreatDoor
section
open Go.Proofs.Tryz
open Go.RowKit
theorem Ko (q:Option (Nat×Nat×Nat)) (n:Nat) (m:Nat->Nat) (x y:Int) (w:World) (h:jz w q n m):Calls prog 288 #[.pointer (qR q),.int .i64 x,.int .i64 y] w (iN q n m x y w):=by
 have Uo:∀z,Co.isIn n z->Calls prog 304 #[.pointer (qR q),.int .i64 z] w fun e w'=>e= .returned (.bool true)/\w'=w:=fun z hz=>by
  have:=x8 (qR q) n m z w h.is;rw[decide_eq_true hz] at this;exact this
 have Ur:∀z,¬Co.isIn n z->Calls prog 304 #[.pointer (qR q),.int .i64 z] w fun e w'=>e= .returned (.bool false)/\w'=w:=fun z hz=>by
  have:=x8 (qR q) n m z w h.is;rw[decide_eq_false hz] at this;exact this
 have PL:=ζ Uo;have SZ:=ζ Ur;clear Uo Ur;by_cases hx:Co.isIn n x
 .by_cases hy:Co.isIn n y
  .have hxl:=Co.dY hx
   have pW:=Co.dY hy;rcases q with _|⟨p,gp,gt⟩
   .obtain rfl:n=0:=h
    omega
   .obtain⟨hn,P,S,L,r,d,h,hf⟩:=h
    obtain⟨a,rfl⟩:∃u:Nat,x=(u:Int):=⟨x.toNat,by unfold Co.isIn at hx;omega⟩;obtain⟨b,rfl⟩:∃u:Nat,y=(u:Int):=⟨y.toNat,by unfold Co.isIn at hy;omega⟩;rw[abb] at hxl pW;have HR:=ζ (fun k (z:Nat) (hz:z<n)=>Dj h hf hz k);have c0:=h.c0;have hsm:=hf.same a b hxl pW;unfold qR at*;by_cases he:r a=r b
    .have hd:((r a:Int)==(r b:Int))=true:=by simp[he]
     have hap:Co.apart n m a b=false:=by
      unfold Co.apart;refine decide_eq_false (fun h=>h.2.2 ?_);simpa using hsm.1 he
     have jE:Hid (∀k,iN (some (p,gp,gt)) n m a b w (.returned (.bool false)) (w.drewN k)):=by
      intro k;refine⟨by rw[hap],?_,(aj.refl _ _).drewN k⟩;have hj:Co.dX n m a b=m:=by unfold Co.dX;rw[hap];rfl
      rw[hj];exact jz.later (q:=some (p,gp,gt)) (w:=w) ⟨hn,P,S,L,r,d,h,hf⟩ (below_drewN (aaE _ _) k)
     clear h hf hsm hap he;go_enter func288,ntmps288;go_wp2_with (go_at_call 304;refine(PL.out _ (by assumption)).mono ?_;rintro e w1 ⟨rfl,rfl⟩);go_quiet ((go_at_call 305;refine abQ (HR.out _ _ ?_);assumption));go_wp2;go_ret;exact jE.out nq
    .have hd:((r a:Int)==(r b:Int))=false:=by simp;omega
     have hma:m a≠m b:=fun e=>he (hsm.2 e)
     have hap:Co.apart n m a b=true:=Co.jy.2 ⟨hx,hy,by simpa using hma⟩;have hj:Co.dX n m a b=Co.join m a b:=by unfold Co.dX;rw[hap];simp
     obtain⟨c,hc⟩:∃c,Co.cnt n (Co.join m a b)=c:=⟨_,rfl⟩;have hcc:=Co.A3 hf.norm hxl pW hma;rw[hc] at hcc;rw[<-hcc] at h;have MB:=hf.rt a hxl;have hrb:=hf.rt b pW;have c1:=h.c1;have sa:=(h.pP.cell MB).1;have sb:=(h.pP.cell hrb).1;have ra0:(0:Int)<=(r a:Int):=by omega
     have ra1:(r a:Int)<(n:Int):=by omega
     have rb0:(0:Int)<=(r b:Int):=by omega
     have rb1:(r b:Int)<(n:Int):=by omega
     have KE:c<=1048576:=by have:=Co.PA n m;omega
     have dQ:Hid (∀a' b',((a'=a/\b'=b)\/(a'=b/\b'=a))->a'<n/\b'<n/\r a'≠r b'/\Co.join m a' b'=Co.join m a b):=by
      rintro a' b' (⟨rfl,rfl⟩|⟨rfl,rfl⟩)
      .exact⟨hxl,pW,he,rfl⟩
      .exact⟨pW,hxl,abM he,Co.join_comm m _ _⟩
     have HH:=ζ h;have HF:=ζ hf;have HJ:=ζ hj;have HC:=ζ hc;have IE:=ζ hap;clear h hf hsm hap hj hc hcc hma he;go_enter func288,ntmps288;go_wp2_with (go_at_call 304;refine(PL.out _ (by assumption)).mono ?_;rintro e w1 ⟨rfl,hw1⟩;obtain rfl:=hw1.symm);go_quiet ((go_at_call 305;refine abQ (HR.out _ _ ?_);assumption));clear PL SZ HR;go_wp2_with fail;go_quiet (fail)
     go_upto_if 50 with fail
     go_cut [7,8] from 50 to 52 (fun u v wr=>∃(a' b' k:Nat),u= .int .i64 (r a':Int)/\v= .int .i64 (r b':Int)/\((a'=a/\b'=b)\/(a'=b/\b'=a))/\wr=w.drewN k)
     case first=>
      by_cases hlt:S (r a)<S (r b)
      .have aX:(S (r a):Int)<(S (r b):Int):=by omega
       go_wp2
       go_meet
       exact⟨b,a,_,rfl,rfl,.inr ⟨rfl,rfl⟩,by first|rfl|rw[World.drewN_drewN]⟩
      .have aX:¬(S (r a):Int)<(S (r b):Int):=by omega
       go_wp2
       go_meet
       exact⟨a,b,_,rfl,rfl,.inl ⟨rfl,rfl⟩,by first|rfl|rw[World.drewN_drewN]⟩
     case rest=>
      obtain⟨a',b',k,rfl,rfl,zI,hwc⟩:=hcut;obtain⟨hal,hbl,Jf,MS⟩:=dQ.out a' b' zI;have hH:aY wc p gp gt n (c+1) P S L:=by rw[hwc];exact HH.out.same (fun _ _ _=>rfl)
      have QK:Hid (∀V,aj (fun b=>b=p\/b=gp\/b=gt) wc V->aj (fun b=>b=p\/b=gp\/b=gt) w V):=by
       intro V hV;rw[hwc] at hV;exact((aj.refl _ w).drewN k).trans hV
      have hA:=HF.out.rt a' hal;have hC:=HF.out.rt b' hbl;obtain⟨r',d',hnew⟩:=HF.out.hang hal hbl Jf;have hS1:S (r a')<=1048576:=by rw[HF.out.sz a' hal];exact aaM (Co.size_le _ _ _) hn
      have yg:S (r b')<=1048576:=by rw[HF.out.sz b' hbl];exact aaM (Co.size_le _ _ _) hn
      obtain⟨A,VQ⟩:∃A,r a'=A:=⟨_,rfl⟩;obtain⟨C,VP⟩:∃C,r b'=C:=⟨_,rfl⟩;rw[VQ] at hA hnew hS1 ⊢;rw[VP] at hC hnew yg ⊢;have W7:=ζ (KG gp n P C A wc hH.par hC);have Wa:=ζ (fun V=>JI (S A) (L A) (S C) (L C) V hS1 yg);obtain⟨s,hs⟩:∃s,S A+S C=s:=⟨_,rfl⟩;obtain⟨l,hl⟩:∃l,min (L A) (L C)=l:=⟨_,rfl⟩;rw[hs,hl] at Wa hnew;have jD:Hid (∀W V1,W=wc.setCell ⟨gp,C,none⟩ (.int .i64 (A:Int))->Below W.heap.size W V1->iN (some (p,gp,gt)) n m a b w (.returned (.bool true)) (((V1.setCell ⟨gt,A*2,none⟩ (.int .i64 (s:Int))).setCell ⟨gt,A*2+1,none⟩ (.int .i64 (l:Int))).setCell ⟨p,2,none⟩ (.int .i64 (c:Int)))):=by
       intro W V1 hW hV;obtain⟨f1,f2,-⟩:=mW hH hC hA s l hW hV;refine⟨by rw[IE.out],?_,QK.out _ f2⟩;rw[HJ.out,<-MS];rw[MS] at hnew ⊢;exact⟨hn,_,_,_,r',d',by rw[HC.out];exact f1,hnew⟩
      have c0:=hH.c0;have JC:=ζ (fun W V1 (hW:W=wc.setCell ⟨gp,C,none⟩ (.int .i64 (A:Int))) hV=>Kn (V1:=V1) hH hC hA s l hW hV);have A0:(0:Int)<=(A:Int):=by omega
      have A1:(A:Int)<(n:Int):=by omega
      have C0:(0:Int)<=(C:Int):=by omega
      have C1:(C:Int)<(n:Int):=by omega
      clear hH hwc hnew hs hl VQ VP Jf MS zI dQ HH HF HJ HC IE QK c1 sa sb hd;go_wp2_with (go_at_call 306;refine W7.out.mono ?_;rintro e w1 ⟨rfl,-,hw1⟩;have yP:=ζ hw1;clear hw1;refine aaH ?_);refine ζ ?_;clear c0 W7;have hbd:Below w1.heap.size w1 w1.drew:=(aaE _ _).drew;obtain⟨⟨x1,x2,x3,x4,x5,x6⟩,-,-⟩:=JC.out w1 w1 yP.out (aaE _ _);go_wp2_with fail
      go_region_with (go_at_call 307;refine(Wa.out _).mono ?_;rintro e V1 ⟨rfl,B5⟩;have hb1:Below w1.heap.size w1 V1:=hbd.trans (B5.mono hbd.size);obtain⟨⟨y1,y2,y3,-,-,y6⟩,⟨z1,z2⟩,-,z4,z5⟩:=JC.out w1 V1 yP.out hb1)
      all_goals
       go_wp2;go_ret;exact jD.out w1 V1 yP.out hb1
  .have hap:Co.apart n m x y=false:=by
    unfold Co.apart;exact decide_eq_false (fun h=>hy h.2.1)
   have hj:Co.dX n m x y=m:=by unfold Co.dX;rw[hap];rfl
   unfold iN;rw[hap,hj];have H:=ζ h;clear h hap hj;go_enter func288,ntmps288;go_wp2_with (go_at_call 304;first|(refine(PL.out _ (by assumption)).mono ?_;rintro e w1 ⟨rfl,rfl⟩)|(refine(SZ.out _ (by assumption)).mono ?_;rintro e w1 ⟨rfl,rfl⟩));go_ret;exact⟨rfl,H.out,aj.refl _ _⟩
 .have hap:Co.apart n m x y=false:=by
   unfold Co.apart;exact decide_eq_false (fun h=>hx h.1)
  have hj:Co.dX n m x y=m:=by unfold Co.dX;rw[hap];rfl
  unfold iN;rw[hap,hj];have H:=ζ h;clear h hap hj;go_enter func288,ntmps288;go_wp2_with (go_at_call 304;refine(SZ.out _ (by assumption)).mono ?_;rintro e w1 ⟨rfl,rfl⟩);go_ret;exact⟨rfl,H.out,aj.refl _ _⟩
end
end Go.Proofs.YtdbjpbjocmcpkaaGreatDoor
