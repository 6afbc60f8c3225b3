import Derived.Test.YtdbjpbjocmcpkaaGreatDoorMj05
import Derived.BigRegion
import Derived.Deep.RegionLaw
import Derived.Deep.CutBlock
import Derived.Deep.CutRange
set_option maxHeartbeats 8000000
set_option maxRecDepth 100000
namespace Go.Proofs.YtdbjpbjocmcpkaaGreatDoor
section
open Go.Proofs.Tryz
open Go.RowKit
theorem Sc (q:Option (Nat×Nat×Nat)) (n:Nat) (m:Nat->Nat) (x y:Int) (w:World) (h:nJ w q n m):Calls prog 288 #[.pointer (xu q),.int .i64 x,.int .i64 y] w (mQ q n m x y w):=by
 have hvt:∀z,Co.isIn n z->Calls prog 304 #[.pointer (xu q),.int .i64 z] w fun e w'=>e= .returned (.bool true)/\w'=w:=fun z hz=>by
  have:=DW (xu q) n m z w h.is;rw[decide_eq_true hz] at this;exact this
 have hvf:∀z,¬Co.isIn n z->Calls prog 304 #[.pointer (xu q),.int .i64 z] w fun e w'=>e= .returned (.bool false)/\w'=w:=fun z hz=>by
  have:=DW (xu q) n m z w h.is;rw[decide_eq_false hz] at this;exact this
 have YU:=ζ hvt;have HVF:=ζ hvf;clear hvt hvf;by_cases hx:Co.isIn n x
 .by_cases hy:Co.isIn n y
  .have hxl:=Co.gQ hx
   have qB:=Co.gQ hy;rcases q with _|⟨p,gp,gt⟩
   .obtain rfl:n=0:=h
    omega
   .obtain⟨hn,P,S,L,r,d,h,hf⟩:=h
    obtain⟨a,rfl⟩:∃u:Nat,x=(u:Int):=⟨x.toNat,by unfold Co.isIn at hx;omega⟩;obtain⟨b,rfl⟩:∃u:Nat,y=(u:Int):=⟨y.toNat,by unfold Co.isIn at hy;omega⟩;rw[abu] at hxl qB;have HR:=ζ (fun k (z:Nat) (hz:z<n)=>Kp h hf hz k);have c0:=h.c0;have hsm:=hf.same a b hxl qB;unfold xu at*;by_cases he:r a=r b
    .have hd:((r a:Int)==(r b:Int))=true:=by simp[he]
     have hap:Co.apart n m a b=false:=by
      unfold Co.apart;refine decide_eq_false (fun h=>h.2.2 ?_);simpa using hsm.1 he
     have j4:Hid (∀k,mQ (some (p,gp,gt)) n m a b w (.returned (.bool false)) (w.drewN k)):=by
      intro k;refine⟨by rw[hap],?_,(av.refl _ _).drewN k⟩;have hj:Co.gP n m a b=m:=by unfold Co.gP;rw[hap];rfl
      rw[hj];exact nJ.later (q:=some (p,gp,gt)) (w:=w) ⟨hn,P,S,L,r,d,h,hf⟩ (below_drewN (aaG _ _) k)
     clear h hf hsm hap he;go_enter func288,ntmps288;go_wp2_with (go_at_call 304;refine(YU.out _ (by assumption)).mono ?_;rintro e w1 ⟨rfl,rfl⟩);go_quiet ((go_at_call 305;refine abw (HR.out _ _ ?_);assumption));go_wp2;go_ret;exact j4.out nq
    .have hd:((r a:Int)==(r b:Int))=false:=by simp;omega
     have hma:m a≠m b:=fun e=>he (hsm.2 e)
     have hap:Co.apart n m a b=true:=Co.nI.2 ⟨hx,hy,by simpa using hma⟩;have hj:Co.gP n m a b=Co.join m a b:=by unfold Co.gP;rw[hap];simp
     obtain⟨c,hc⟩:∃c,Co.cnt n (Co.join m a b)=c:=⟨_,rfl⟩;have hcc:=Co.Ho hf.norm hxl qB hma;rw[hc] at hcc;rw[<-hcc] at h;have LF:=hf.rt a hxl;have hrb:=hf.rt b qB;have c1:=h.c1;have sa:=(h.vO.cell LF).1;have sb:=(h.vO.cell hrb).1;have ra0:(0:Int)<=(r a:Int):=by omega
     have ra1:(r a:Int)<(n:Int):=by omega
     have rb0:(0:Int)<=(r b:Int):=by omega
     have rb1:(r b:Int)<(n:Int):=by omega
     have oO:c<=1048576:=by have:=Co.yC n m;omega
     have jc:Hid (∀a' b',((a'=a/\b'=b)\/(a'=b/\b'=a))->a'<n/\b'<n/\r a'≠r b'/\Co.join m a' b'=Co.join m a b):=by
      rintro a' b' (⟨rfl,rfl⟩|⟨rfl,rfl⟩)
      .exact⟨hxl,qB,he,rfl⟩
      .exact⟨qB,hxl,acn he,Co.join_comm m _ _⟩
     have HH:=ζ h;have HF:=ζ hf;have HJ:=ζ hj;have HC:=ζ hc;have PX:=ζ hap;clear h hf hsm hap hj hc hcc hma he;go_enter func288,ntmps288;go_wp2_with (go_at_call 304;refine(YU.out _ (by assumption)).mono ?_;rintro e w1 ⟨rfl,hw1⟩;obtain rfl:=hw1.symm);go_quiet ((go_at_call 305;refine abw (HR.out _ _ ?_);assumption));clear YU HVF HR;go_wp2_with fail;go_quiet (fail)
     go_upto_if 50 with fail
     go_cut [7,8] from 50 to 52 (fun u v wr=>∃(a' b' k:Nat),u= .int .i64 (r a':Int)/\v= .int .i64 (r b':Int)/\((a'=a/\b'=b)\/(a'=b/\b'=a))/\wr=w.drewN k)
     case first=>
      by_cases hlt:S (r a)<S (r b)
      .have aP:(S (r a):Int)<(S (r b):Int):=by omega
       go_wp2
       go_meet
       exact⟨b,a,_,rfl,rfl,.inr ⟨rfl,rfl⟩,by first|rfl|rw[World.drewN_drewN]⟩
      .have aP:¬(S (r a):Int)<(S (r b):Int):=by omega
       go_wp2
       go_meet
       exact⟨a,b,_,rfl,rfl,.inl ⟨rfl,rfl⟩,by first|rfl|rw[World.drewN_drewN]⟩
     case rest=>
      obtain⟨a',b',k,rfl,rfl,rL,hwc⟩:=hcut;obtain⟨hal,hbl,Qu,hjj⟩:=jc.out a' b' rL;have hH:bN wc p gp gt n (c+1) P S L:=by rw[hwc];exact HH.out.same (fun _ _ _=>rfl)
      have Z4:Hid (∀V,av (fun b=>b=p\/b=gp\/b=gt) wc V->av (fun b=>b=p\/b=gp\/b=gt) w V):=by
       intro V hV;rw[hwc] at hV;exact((av.refl _ w).drewN k).trans hV
      have hA:=HF.out.rt a' hal;have hC:=HF.out.rt b' hbl;obtain⟨r',d',hnew⟩:=HF.out.hang hal hbl Qu;have hS1:S (r a')<=1048576:=by rw[HF.out.sz a' hal];exact aa1 (Co.size_le _ _ _) hn
      have D8:S (r b')<=1048576:=by rw[HF.out.sz b' hbl];exact aa1 (Co.size_le _ _ _) hn
      obtain⟨A,hAA⟩:∃A,r a'=A:=⟨_,rfl⟩;obtain⟨C,hCC⟩:∃C,r b'=C:=⟨_,rfl⟩;rw[hAA] at hA hnew hS1 ⊢;rw[hCC] at hC hnew D8 ⊢;have HHG:=ζ (SG gp n P C A wc hH.par hC);have PD:=ζ (fun V=>Q8 (S A) (L A) (S C) (L C) V hS1 D8);obtain⟨s,hs⟩:∃s,S A+S C=s:=⟨_,rfl⟩;obtain⟨l,hl⟩:∃l,min (L A) (L C)=l:=⟨_,rfl⟩;rw[hs,hl] at PD hnew;have lI:Hid (∀W V1,W=wc.setCell ⟨gp,C,none⟩ (.int .i64 (A:Int))->Below W.heap.size W V1->mQ (some (p,gp,gt)) n m a b w (.returned (.bool true)) (((V1.setCell ⟨gt,A*2,none⟩ (.int .i64 (s:Int))).setCell ⟨gt,A*2+1,none⟩ (.int .i64 (l:Int))).setCell ⟨p,2,none⟩ (.int .i64 (c:Int)))):=by
       intro W V1 hW hV;obtain⟨f1,f2,-⟩:=sD hH hC hA s l hW hV;refine⟨by rw[PX.out],?_,Z4.out _ f2⟩;rw[HJ.out,<-hjj];rw[hjj] at hnew ⊢;exact⟨hn,_,_,_,r',d',by rw[HC.out];exact f1,hnew⟩
      have c0:=hH.c0;have Q3:=ζ (fun W V1 (hW:W=wc.setCell ⟨gp,C,none⟩ (.int .i64 (A:Int))) hV=>Sb (V1:=V1) hH hC hA s l hW hV);have A0:(0:Int)<=(A:Int):=by omega
      have A1:(A:Int)<(n:Int):=by omega
      have C0:(0:Int)<=(C:Int):=by omega
      have C1:(C:Int)<(n:Int):=by omega
      clear hH hwc hnew hs hl hAA hCC Qu hjj rL jc HH HF HJ HC PX Z4 c1 sa sb hd;go_wp2_with (go_at_call 306;refine HHG.out.mono ?_;rintro e w1 ⟨rfl,-,hw1⟩;have JF:=ζ hw1;clear hw1;refine aaI ?_);refine ζ ?_;clear c0 HHG;have hbd:Below w1.heap.size w1 w1.drew:=(aaG _ _).drew;obtain⟨⟨x1,x2,x3,x4,x5,x6⟩,-,-⟩:=Q3.out w1 w1 JF.out (aaG _ _);go_wp2_with fail
      go_region_with (go_at_call 307;refine(PD.out _).mono ?_;rintro e V1 ⟨rfl,Dv⟩;have hb1:Below w1.heap.size w1 V1:=hbd.trans (Dv.mono hbd.size);obtain⟨⟨y1,y2,y3,-,-,y6⟩,⟨z1,z2⟩,-,z4,z5⟩:=Q3.out w1 V1 JF.out hb1)
      all_goals
       go_wp2;go_ret;exact lI.out w1 V1 JF.out hb1
  .have hap:Co.apart n m x y=false:=by
    unfold Co.apart;exact decide_eq_false (fun h=>hy h.2.1)
   have hj:Co.gP n m x y=m:=by unfold Co.gP;rw[hap];rfl
   unfold mQ;rw[hap,hj];have H:=ζ h;clear h hap hj;go_enter func288,ntmps288;go_wp2_with (go_at_call 304;first|(refine(YU.out _ (by assumption)).mono ?_;rintro e w1 ⟨rfl,rfl⟩)|(refine(HVF.out _ (by assumption)).mono ?_;rintro e w1 ⟨rfl,rfl⟩));go_ret;exact⟨rfl,H.out,av.refl _ _⟩
 .have hap:Co.apart n m x y=false:=by
   unfold Co.apart;exact decide_eq_false (fun h=>hx h.1)
  have hj:Co.gP n m x y=m:=by unfold Co.gP;rw[hap];rfl
  unfold mQ;rw[hap,hj];have H:=ζ h;clear h hap hj;go_enter func288,ntmps288;go_wp2_with (go_at_call 304;refine(HVF.out _ (by assumption)).mono ?_;rintro e w1 ⟨rfl,rfl⟩);go_ret;exact⟨rfl,H.out,av.refl _ _⟩
end
end Go.Proofs.YtdbjpbjocmcpkaaGreatDoor
