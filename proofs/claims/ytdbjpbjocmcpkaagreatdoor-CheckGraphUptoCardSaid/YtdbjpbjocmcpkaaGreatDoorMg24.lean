import Derived.Test.YtdbjpbjocmcpkaaGreatDoorMg20
set_option maxHeartbeats 8000000
set_option maxRecDepth 100000
namespace Go.Proofs.YtdbjpbjocmcpkaaGreatDoor
section
open Go.Proofs.Tryz
open Go.RowKit
theorem O8 (q:Option (Nat×Nat×Nat)) (n:Nat) (m:Nat->Nat) (x y:Int) (w:World) (h:lY w q n m):Calls prog 288 #[.pointer (vE q),.int .i64 x,.int .i64 y] w (k9 q n m x y w):=by
 have hvt:∀z,Co.isIn n z->Calls prog 304 #[.pointer (vE q),.int .i64 z] w fun e w'=>e= .returned (.bool true)/\w'=w:=fun z hz=>by
  have:=B4 (vE q) n m z w h.is;rw[decide_eq_true hz] at this;exact this
 have hvf:∀z,¬Co.isIn n z->Calls prog 304 #[.pointer (vE q),.int .i64 z] w fun e w'=>e= .returned (.bool false)/\w'=w:=fun z hz=>by
  have:=B4 (vE q) n m z w h.is;rw[decide_eq_false hz] at this;exact this
 have Vq:=ζ hvt;have YU:=ζ hvf;clear hvt hvf;by_cases hx:Co.isIn n x
 .by_cases hy:Co.isIn n y
  .have hxl:=Co.fO hx
   have oG:=Co.fO hy;rcases q with _|⟨p,gp,gt⟩
   .obtain rfl:n=0:=h
    omega
   .obtain⟨hn,P,S,L,r,d,h,hf⟩:=h
    obtain⟨a,rfl⟩:∃u:Nat,x=(u:Int):=⟨x.toNat,by unfold Co.isIn at hx;omega⟩;obtain⟨b,rfl⟩:∃u:Nat,y=(u:Int):=⟨y.toNat,by unfold Co.isIn at hy;omega⟩;rw[abz] at hxl oG;have HR:=ζ (fun k (z:Nat) (hz:z<n)=>Ic h hf hz k);have c0:=h.c0;have hsm:=hf.same a b hxl oG;unfold vE at*;by_cases he:r a=r b
    .have hd:((r a:Int)==(r b:Int))=true:=by simp[he]
     have hap:Co.apart n m a b=false:=by
      unfold Co.apart;refine decide_eq_false (fun h=>h.2.2 ?_);simpa using hsm.1 he
     have jf:Hid (∀k,k9 (some (p,gp,gt)) n m a b w (.returned (.bool false)) (w.drewN k)):=by
      intro k;refine⟨by rw[hap],?_,(aq.refl _ _).drewN k⟩;have hj:Co.fN n m a b=m:=by unfold Co.fN;rw[hap];rfl
      rw[hj];exact lY.later (q:=some (p,gp,gt)) (w:=w) ⟨hn,P,S,L,r,d,h,hf⟩ (below_drewN (aae _ _) k)
     clear h hf hsm hap he;go_enter func288,ntmps288;go_wp2_with (go_at_call 304;refine(Vq.out _ (by assumption)).mono ?_;rintro e w1 ⟨rfl,rfl⟩);go_quiet ((go_at_call 305;refine abq (HR.out _ _ ?_);assumption));go_wp2;go_ret;exact jf.out nq
    .have hd:((r a:Int)==(r b:Int))=false:=by simp;omega
     have hma:m a≠m b:=fun e=>he (hsm.2 e)
     have hap:Co.apart n m a b=true:=Co.lX.2 ⟨hx,hy,by simpa using hma⟩;have hj:Co.fN n m a b=Co.join m a b:=by unfold Co.fN;rw[hap];simp
     obtain⟨c,hc⟩:∃c,Co.cnt n (Co.join m a b)=c:=⟨_,rfl⟩;have hcc:=Co.E1 hf.norm hxl oG hma;rw[hc] at hcc;rw[<-hcc] at h;have Rz:=hf.rt a hxl;have hrb:=hf.rt b oG;have c1:=h.c1;have sa:=(h.tU.cell Rz).1;have sb:=(h.tU.cell hrb).1;have ra0:(0:Int)<=(r a:Int):=by omega
     have ra1:(r a:Int)<(n:Int):=by omega
     have rb0:(0:Int)<=(r b:Int):=by omega
     have rb1:(r b:Int)<(n:Int):=by omega
     have ng:c<=1048576:=by have:=Co.NY n m;omega
     have iG:Hid (∀a' b',((a'=a/\b'=b)\/(a'=b/\b'=a))->a'<n/\b'<n/\r a'≠r b'/\Co.join m a' b'=Co.join m a b):=by
      rintro a' b' (⟨rfl,rfl⟩|⟨rfl,rfl⟩)
      .exact⟨hxl,oG,he,rfl⟩
      .exact⟨oG,hxl,acs he,Co.join_comm m _ _⟩
     have HH:=ζ h;have HF:=ζ hf;have HJ:=ζ hj;have HC:=ζ hc;have Nd:=ζ hap;clear h hf hsm hap hj hc hcc hma he;go_enter func288,ntmps288;go_wp2_with (go_at_call 304;refine(Vq.out _ (by assumption)).mono ?_;rintro e w1 ⟨rfl,hw1⟩;obtain rfl:=hw1.symm);go_quiet ((go_at_call 305;refine abq (HR.out _ _ ?_);assumption));clear Vq YU HR;go_wp2_with fail;go_quiet (fail)
     go_upto_if 50 with fail
     go_cut [7,8] from 50 to 52 (fun u v wr=>∃(a' b' k:Nat),u= .int .i64 (r a':Int)/\v= .int .i64 (r b':Int)/\((a'=a/\b'=b)\/(a'=b/\b'=a))/\wr=w.drewN k)
     case first=>
      by_cases hlt:S (r a)<S (r b)
      .have aQ:(S (r a):Int)<(S (r b):Int):=by omega
       go_wp2
       go_meet
       exact⟨b,a,_,rfl,rfl,.inr ⟨rfl,rfl⟩,by first|rfl|rw[World.drewN_drewN]⟩
      .have aQ:¬(S (r a):Int)<(S (r b):Int):=by omega
       go_wp2
       go_meet
       exact⟨a,b,_,rfl,rfl,.inl ⟨rfl,rfl⟩,by first|rfl|rw[World.drewN_drewN]⟩
     case rest=>
      obtain⟨a',b',k,rfl,rfl,xJ,hwc⟩:=hcut;obtain⟨hal,hbl,NF,R2⟩:=iG.out a' b' xJ;have hH:bH wc p gp gt n (c+1) P S L:=by rw[hwc];exact HH.out.same (fun _ _ _=>rfl)
      have Wq:Hid (∀V,aq (fun b=>b=p\/b=gp\/b=gt) wc V->aq (fun b=>b=p\/b=gp\/b=gt) w V):=by
       intro V hV;rw[hwc] at hV;exact((aq.refl _ w).drewN k).trans hV
      have hA:=HF.out.rt a' hal;have hC:=HF.out.rt b' hbl;obtain⟨r',d',hnew⟩:=HF.out.hang hal hbl NF;have hS1:S (r a')<=1048576:=by rw[HF.out.sz a' hal];exact aaD (Co.size_le _ _ _) hn
      have B9:S (r b')<=1048576:=by rw[HF.out.sz b' hbl];exact aaD (Co.size_le _ _ _) hn
      obtain⟨A,hAA⟩:∃A,r a'=A:=⟨_,rfl⟩;obtain⟨C,hCC⟩:∃C,r b'=C:=⟨_,rfl⟩;rw[hAA] at hA hnew hS1 ⊢;rw[hCC] at hC hnew B9 ⊢;have HHG:=ζ (Pv gp n P C A wc hH.par hC);have HWI:=ζ (fun V=>Ok (S A) (L A) (S C) (L C) V hS1 B9);obtain⟨s,hs⟩:∃s,S A+S C=s:=⟨_,rfl⟩;obtain⟨l,hl⟩:∃l,min (L A) (L C)=l:=⟨_,rfl⟩;rw[hs,hl] at HWI hnew;have l8:Hid (∀W V1,W=wc.setCell ⟨gp,C,none⟩ (.int .i64 (A:Int))->Below W.heap.size W V1->k9 (some (p,gp,gt)) n m a b w (.returned (.bool true)) (((V1.setCell ⟨gt,A*2,none⟩ (.int .i64 (s:Int))).setCell ⟨gt,A*2+1,none⟩ (.int .i64 (l:Int))).setCell ⟨p,2,none⟩ (.int .i64 (c:Int)))):=by
       intro W V1 hW hV;obtain⟨f1,f2,-⟩:=qD hH hC hA s l hW hV;refine⟨by rw[Nd.out],?_,Wq.out _ f2⟩;rw[HJ.out,<-R2];rw[R2] at hnew ⊢;exact⟨hn,_,_,_,r',d',by rw[HC.out];exact f1,hnew⟩
      have c0:=hH.c0;have Oe:=ζ (fun W V1 (hW:W=wc.setCell ⟨gp,C,none⟩ (.int .i64 (A:Int))) hV=>O7 (V1:=V1) hH hC hA s l hW hV);have A0:(0:Int)<=(A:Int):=by omega
      have A1:(A:Int)<(n:Int):=by omega
      have C0:(0:Int)<=(C:Int):=by omega
      have C1:(C:Int)<(n:Int):=by omega
      clear hH hwc hnew hs hl hAA hCC NF R2 xJ iG HH HF HJ HC Nd Wq c1 sa sb hd;go_wp2_with (go_at_call 306;refine HHG.out.mono ?_;rintro e w1 ⟨rfl,-,hw1⟩;have CS:=ζ hw1;clear hw1;refine aaj ?_);refine ζ ?_;clear c0 HHG;have hbd:Below w1.heap.size w1 w1.drew:=(aae _ _).drew;obtain⟨⟨x1,x2,x3,x4,x5,x6⟩,-,-⟩:=Oe.out w1 w1 CS.out (aae _ _);go_wp2_with fail
      go_region_with (go_at_call 307;refine(HWI.out _).mono ?_;rintro e V1 ⟨rfl,BC⟩;have hb1:Below w1.heap.size w1 V1:=hbd.trans (BC.mono hbd.size);obtain⟨⟨y1,y2,y3,-,-,y6⟩,⟨z1,z2⟩,-,z4,z5⟩:=Oe.out w1 V1 CS.out hb1)
      all_goals
       go_wp2;go_ret;exact l8.out w1 V1 CS.out hb1
  .have hap:Co.apart n m x y=false:=by
    unfold Co.apart;exact decide_eq_false (fun h=>hy h.2.1)
   have hj:Co.fN n m x y=m:=by unfold Co.fN;rw[hap];rfl
   unfold k9;rw[hap,hj];have H:=ζ h;clear h hap hj;go_enter func288,ntmps288;go_wp2_with (go_at_call 304;first|(refine(Vq.out _ (by assumption)).mono ?_;rintro e w1 ⟨rfl,rfl⟩)|(refine(YU.out _ (by assumption)).mono ?_;rintro e w1 ⟨rfl,rfl⟩));go_ret;exact⟨rfl,H.out,aq.refl _ _⟩
 .have hap:Co.apart n m x y=false:=by
   unfold Co.apart;exact decide_eq_false (fun h=>hx h.1)
  have hj:Co.fN n m x y=m:=by unfold Co.fN;rw[hap];rfl
  unfold k9;rw[hap,hj];have H:=ζ h;clear h hap hj;go_enter func288,ntmps288;go_wp2_with (go_at_call 304;refine(YU.out _ (by assumption)).mono ?_;rintro e w1 ⟨rfl,rfl⟩);go_ret;exact⟨rfl,H.out,aq.refl _ _⟩
end
end Go.Proofs.YtdbjpbjocmcpkaaGreatDoor
