/-
  Proved: for every graph the law KuraVerdict answers true, and all reads afterwards as before. No condition.
-/
import Derived.Test.YtbhdibflpjhpaaaGreatMg48
set_option maxHeartbeats 32000000
set_option maxRecDepth 100000
namespace Go.Proofs.YtbhdibflpjhpaaaGreat
open Go.Proofs.Tryz
open Go.ChangeShapes Go.WideShapes Go.ChangeAt Go.RowKit
namespace Qd
theorem walk (n:Int) (ao:Option Addr) (ca:Nat) (es:List (Int×Int)) (w:World) (_: -9223372036854775808<=n/\n<=9223372036854775807) (hq:EL w ao es.length ca es) (hle:es.length*16<=140737488351232):
 Calls prog 3 #[.agg #[.int .i64 n,.slice ao es.length ca]] w fun e w'=>e= .returned (.bool true)/\Below w.heap.size w w':=by
 have Mt:Hid (nD w n ao ca es _):=ζ (.start hq.hat);have HP:Hid (∀a c W,aN W a es->Calls prog 5 #[.agg #[.int .i64 n,.slice a es.length c]] W (Ku.Tf (Ku.kr n es) W)):=fun a c W h=>tL n a c es W h (by omega)
 have yZ:Hid (∀a c W,aN W a es->Calls prog 7 #[.agg #[.int .i64 n,.slice a es.length c]] W fun e w'=>e= .returned (.tuple #[.bool (Dc n es),.int .i64 (if Si.valid n es then 0 else 1)])/\Below W.heap.size W w'):=fun a c W h=>Db n a c es W h (by omega)
 obtain⟨⟨kd,br,ps,is,z⟩,hr⟩:∃r,Ku.kr n es=r:=⟨_,rfl⟩;rw[hr] at HP;have HKR:=ζ hr;unfold Ku.Tf at HP;dsimp only at HP;have hle':es.length*16<=140737488355328:=by omega
 clear hq hr;go_enter func3,ntmps3;go_wp2_with (go_at_call 4;refine(Hf _).mono ?_;rintro e w1 ⟨rfl,hb⟩;refine abQ ?_);refine ζ ?_;have G1:=ζ (Mt.out.later hb);obtain⟨x0,x1⟩:=G1.out.cells;clear hb Mt
 go_wp2_with (first
  |(go_at_call 6;refine(G1.out.copy hle').mono ?_;rintro e w2 ⟨a2,c2,rfl,dw,hb2⟩;have HE:=ζ dw;have G2:=ζ (G1.out.later hb2);clear dw hb2)
  |(go_at_call 5;refine(HP.out _ _ _ HE.out).mono ?_;rintro e w3 ⟨a3,c3,a4,c4,rfl,BI,hs3,hb3⟩;have G3:=ζ (G2.out.later hb3);clear BI hs3 hb3;refine abQ ?_))
 refine ζ ?_;clear x0 x1 HE G1 G2;obtain⟨V,hV⟩:∃V,V=w3.alloc (.cells #[.int .i64 kd,.slice a3 br.length c3,.slice a4 ps.length c4] 30):=⟨_,rfl⟩;have xj:Below w3.heap.size w3 V:=by rw[hV];exact(aae _ _).alloc (aad _) _
 have GV:=ζ (G3.out.later xj);have HV:=ζ hV;clear xj hV G3;cases is with
 |false=>
  have HB:=ζ GV.out.low;cases hz:(z != 0) with
  |true=>
   go_wp2;go_ret;rw[<-HV.out];exact⟨rfl,HB.out⟩
  |false=>
   go_wp2;go_ret;rw[<-HV.out];exact⟨rfl,HB.out⟩
 |true=>
  obtain⟨m,rfl,hv,hno,hall⟩:=Ku.JE (n:=n) (es:=es) (by rw[HKR.out]);have hz:z=0:=by
   have h:=HKR.out;rw[Ku.Ce hv] at h;revert h;cases Ku.jB (Ku.rows es hv es.length) es m with
   |none=>intro h;cases h
   |some x=>intro h;cases h;rfl
  subst hz;have hpl:Dc (m:Int) es=false:=YD hno;have q9:=ζ hall;rw[hpl] at yZ;have ans:((0:Int) != 0)=false:=rfl;obtain⟨x0,x1⟩:=GV.out.cells;rw[HV.out] at x0 x1;obtain⟨zz,hzz⟩:∃zz:Int,zz=(if Si.valid (m:Int) es then 0 else 1):=⟨_,rfl⟩;rw[<-hzz] at yZ;clear hzz hpl hno hall hv
  go_wp2_with (first
   |(go_at_call 6;rw[<-HV.out];refine(GV.out.copy hle').mono ?_;rintro e w4 ⟨a4,c4,rfl,he4,hb4⟩;have HE:=ζ he4;have G4:=ζ (GV.out.later hb4);clear he4 hb4)
   |(go_at_call 7;refine(yZ.out _ _ _ HE.out).mono ?_;rintro e w5 ⟨rfl,hb5⟩;have G5:=ζ (G4.out.later hb5);clear hb5;refine abQ ?_))
  refine ζ ?_;clear x0 x1 HE GV G4;obtain⟨x0,x1⟩:=G5.out.cells;go_wp2_with fail;clear x0 x1;go_loopw [8] (fun cv wr=>∃(i:Nat),i<=es.length/\i<=80/\cv= .int .i64 (i:Int)/\nD w (m:Int) ao ca es wr) (fun cv _=>es.length-(intOf cv).toNat)
  case atStart=>exact⟨0,by omega,by omega,rfl,G5.out⟩
  case round=>
   clear G5 yZ HP HKR;obtain⟨i,hil,anx,rfl,hG⟩:=hrel;obtain⟨X,rfl⟩:∃X,X=wr:=⟨wr,rfl⟩;have GX:=ζ hG;obtain⟨x0,x1⟩:=hG.cells;by_cases hin:i<es.length
   .have anw:(i:Int)<(es.length:Int):=by omega
    by_cases h8:i<80
    .have h8i:(i:Int)<80:=by omega
     clear hG;go_wp2_with fail;have fo:Hid (lK w (m:Int) ao ca es X.heap.size (.slice none 0 0) (Ku.wo es i 0) (X.alloc (.cells #[.int .i64 (m:Int),.slice none 0 0] 24))):=by
      rw[Ku.JB];exact lK.start GX.out
     clear x0 x1;go_loopw [10] (fun cv wr=>∃(k:Nat) (a:Option Addr) (c:Nat),k<=es.length/\cv= .int .i64 (k:Int)/\lK w (m:Int) ao ca es X.heap.size (.slice a (Ku.wo es i k).length c) (Ku.wo es i k) wr) (fun cv _=>es.length-(intOf cv).toNat)
     case atStart=>exact⟨0,none,0,ab6 _,rfl,by simpa[Ku.JB] using fo.out⟩
     case round=>
      clear fo;obtain⟨k,a,c,hkl,rfl,hH⟩:=hrel;have H:=ζ hH;obtain⟨x0,x1⟩:=hH.g.cells;obtain⟨y0,y1,yf⟩:=hH.cells;by_cases hkn:k<es.length
      .have aaY:(k:Int)<(es.length:Int):=by omega
       have hk0:(0:Int)<=(k:Int):=by omega
       obtain⟨⟨p1,p2⟩,hq⟩:∃q,es[k]? =some q:=⟨_,aac hkn⟩;by_cases hki:k=i
       .subst hki
        have hd:((k:Int) != (k:Int))=false:=by simp
        have HY:=ζ (Ku.TC hq);clear hH hq;go_wp2;go_roundw
        case rel=>exact⟨k+1,a,c,by omega,by go_num,by rw[HY.out];exact H.out⟩
        case measure=>simp[intOf];omega
       .have hd:((k:Int) != (i:Int))=true:=by simp;omega
        obtain⟨b,o,rfl,c0,c1⟩:=hH.g.Ae k _ hq;dsimp only at c0 c1;have HT:=ζ (Ku.Q8 hq hki);have HQE:=ζ hq;obtain⟨l1,qI⟩:∃l1,Ku.wo es i k=l1:=⟨_,rfl⟩;have anu:l1.length<=8796093022000:=by
         have h1:=Ku.MB (es:=es) (i:=i) (k:=k);rw[qI] at h1;omega
        rw[qI] at H HT y1;have HS:Hid (∀U,Below wr.heap.size wr U->(U.cell? ⟨X.heap.size,1,none⟩=some (.slice a l1.length c)/\U.cell? ⟨w.heap.size,1,none⟩=some (.slice (some ⟨b,o,none⟩) es.length ca)/\U.cell? ⟨b,o+k*2,none⟩=some (.int .i64 p1)/\U.cell? ⟨b,o+k*2+1,none⟩=some (.int .i64 p2))):=fun U hU=>by
         have h1:=H.out.later hU;exact⟨h1.cells.2.1,h1.g.cells.2,(hU.cell (p:=⟨b,o+k*2,none⟩) (block_lt_of_cell c0)).trans c0,(hU.cell (p:=⟨b,o+k*2+1,none⟩) (block_lt_of_cell c1)).trans c1⟩
        have VL:Below wr.heap.size wr (wr.drew.alloc (.cells #[.int .i64 p1,.int .i64 p2] 38)):=((aae wr.heap.size wr).drew).alloc (aad _) _;have hU:=H.out.later VL;obtain⟨v',w2,hrun,q1,q2⟩:=Nd (X.heap.size+1) (.slice a l1.length c) l1 p1 p2 hU.own (by have:=lt_of_block hU.box;omega) wr.heap.size (heap_alloc_new wr.drew _) (by omega);obtain⟨hN,hO2,hO3⟩:=hU.push q1 q2;have Ov:=hU.grown q2;obtain⟨vo,vc,hv',_⟩:=q1.form;rw[abZ] at hv';have HV:Hid (∀V,(V=wr.drew\/V=wr.drew.alloc (.cells #[.int .i64 p1,.int .i64 p2] 38)\/V=w2)->(V.cell? ⟨X.heap.size,1,none⟩=some (.slice a l1.length c)/\V.cell? ⟨w.heap.size,1,none⟩=some (.slice (some ⟨b,o,none⟩) es.length ca)/\V.cell? ⟨b,o+k*2,none⟩=some (.int .i64 p1)/\V.cell? ⟨b,o+k*2+1,none⟩=some (.int .i64 p2))):=fun V hV=>by
         rcases hV with rfl|rfl|rfl
         .exact HS.out _ ((aae _ _).drew)
         .exact HS.out _ VL
         .obtain⟨b',o',eb,d0,d1⟩:=Ov.Ae k _ HQE.out
          cases eb;exact⟨hO2,Ov.cells.2,d0,d1⟩
        have Mo:Hid (w2.frozen? ⟨X.heap.size,1,none⟩=false):=hO3;have HN:Hid (lK w (m:Int) (some ⟨b,o,none⟩) ca es X.heap.size v' (l1++[(p1,p2)]) (w2.setCell ⟨X.heap.size,1,none⟩ v')):=hN;clear hH hq qI VL hU q1 q2 hN hO2 hO3 Ov;go_wp2_with fail;refine wp_region_any (by kernel_rfl) ?_;refine aq.QV (fun j=>match j with|0=> .pointer (some ⟨X.heap.size,1,none⟩)|1=> .slice a l1.length c|2=> .pointer (some ⟨w.heap.size,1,none⟩)|3=> .slice (some ⟨b,o,none⟩) es.length ca|4=> .int .i64 (k:Int)|5=> .pointer (some ⟨b,o+k*2,none⟩)|6=> .agg #[.int .i64 p1,.int .i64 p2]|7=> .slice (some ⟨wr.heap.size,0,none⟩) 1 1|8=>v'|9=> .pointer (some ⟨X.heap.size,1,none⟩)|_=>undef) (Ku.zL wr.drew (wr.drew.alloc (.cells #[.int .i64 p1,.int .i64 p2] 38)) w2 (w2.setCell ⟨X.heap.size,1,none⟩ v') 7 8 10) _ rfl (by kernel_rfl) rfl ?_ ?_
        .intro j o' Ls V ev ho dQ hC dY hdc aM dw IM cQ
         have hc:j=0\/j=1\/j=2\/j=3\/j=4\/j=5\/j=6\/j=7\/j=8\/j=9\/j=10:=by
          have:j<11:=(abR.1 ho).1;omega
         have h10:Ls 10=false:=by
          cases h:Ls 10 with
          |false=>rfl
          |true=>
           exfalso;have hq:Ls j=true:=by
            rcases hc with rfl|rfl|rfl|rfl|rfl|rfl|rfl|rfl|rfl|rfl|rfl
            .exact hdc 10 _ rfl h ⟨0,.phase⟩ (by simp) rfl
            .exact hdc 10 _ rfl h ⟨1,.phase⟩ (by simp) rfl
            .exact hdc 10 _ rfl h ⟨2,.phase⟩ (by simp) rfl
            .exact hdc 10 _ rfl h ⟨3,.phase⟩ (by simp) rfl
            .exact hdc 10 _ rfl h ⟨4,.phase⟩ (by simp) rfl
            .exact hdc 10 _ rfl h ⟨5,.phase⟩ (by simp) rfl
            .exact hdc 10 _ rfl h ⟨6,.phase⟩ (by simp) rfl
            .exact hdc 10 _ rfl h ⟨7,.phase⟩ (by simp) rfl
            .exact hdc 10 _ rfl h ⟨8,.phase⟩ (by simp) rfl
            .exact hdc 10 _ rfl h ⟨9,.data⟩ (by simp) rfl
            .exact h
           rw[dQ] at hq;cases hq
         have VG:V=wr.drew\/V=(wr.drew.alloc (.cells #[.int .i64 p1,.int .i64 p2] 38))\/V=w2:=by
          unfold Ku.zL at hC;rw[h10] at hC;simp only[adq,if_false] at hC
          split at hC
          .exact .inr (.inr hC)
          .split at hC
           .exact .inr (.inl hC)
           .exact .inl hC
         obtain⟨k1,k2,k3,k4⟩:=HV.out V VG;have kf:=Mo.out;rcases hc with rfl|rfl|rfl|rfl|rfl|rfl|rfl|rfl|rfl|rfl|rfl<;>obtain rfl:=aal ho
         .exact aq.gr (hC.other (by decide) (by decide) (by decide)) (by simp[execOp,go_sem,dw 9 (by kernel_rfl)])
         .exact aq.gr (hC.other (by decide) (by decide) (by decide)) (by simp[execOp,go_sem,aM 0 64 (by omega) rfl (by simp),k1])
         .exact aq.gr (hC.other (by decide) (by decide) (by decide)) (by simp[execOp,go_sem,dw 1 (by kernel_rfl)])
         .exact aq.gr (hC.other (by decide) (by decide) (by decide)) (by simp[execOp,go_sem,aM 2 66 (by omega) rfl (by simp),k2])
         .exact aq.gr (hC.other (by decide) (by decide) (by decide)) (by simp[execOp,go_sem,dw 10 (by kernel_rfl)])
         .exact aq.gr (hC.other (by decide) (by decide) (by decide)) (by simp[execOp,go_sem,aM 3 67 (by omega) rfl (by simp),aM 4 68 (by omega) rfl (by simp),hk0,aaY])
         .exact aq.gr (hC.other (by decide) (by decide) (by decide)) (by simp[execOp,go_sem,aM 5 69 (by omega) rfl (by simp),k3,k4])
         .have e1:ev (.tmp 70)= .agg #[.int .i64 p1,.int .i64 p2]:=aM 6 70 (by omega) rfl (by simp)
          have h8:Ls 8=false:=by
           cases h:Ls 8 with
           |false=>rfl
           |true=>
            have:Ls 7=true:=hdc 8 _ rfl h ⟨7,.data⟩ (by simp) rfl;rw[this] at dQ;cases dQ
          obtain rfl:V=wr.drew:=by
           unfold Ku.zL at hC;rw[h10,h8,dQ] at hC;exact hC
          refine aq.cI (v:= .slice (some ⟨wr.heap.size,0,none⟩) 1 1) (w':=(wr.drew.alloc (.cells #[.int .i64 p1,.int .i64 p2] 38))) (by simp[execOp,go_sem,e1]) ⟨rfl,?_⟩;unfold Ku.zL;rw[show aq.bM Ls 7 10=false from h10,show aq.bM Ls 7 8=false from h8,show aq.bM Ls 7 7=true from rfl];rfl
         .have e1:ev (.tmp 65)= .slice a l1.length c:=aM 1 65 (by omega) rfl (by simp)
          have e2:ev (.tmp 71)= .slice (some ⟨wr.heap.size,0,none⟩) 1 1:=aM 7 71 (by omega) rfl (by simp);have h7:Ls 7=true:=dY ⟨7,.data⟩ (by simp) rfl;obtain rfl:V=(wr.drew.alloc (.cells #[.int .i64 p1,.int .i64 p2] 38)):=by
           unfold Ku.zL at hC;rw[h10,dQ,h7] at hC;exact hC
          refine aq.cI (v:=v') (w':=w2) (hrun _ ev _ _ rfl rfl e1 e2) ⟨rfl,?_⟩;unfold Ku.zL;rw[show aq.bM Ls 8 10=false from h10,show aq.bM Ls 8 8=true from rfl];rfl
         .exact aq.gr (hC.other (by decide) (by decide) (by decide)) (by simp[execOp,go_sem,dw 9 (by kernel_rfl)])
         .have e1:ev (.tmp 73)= .pointer (some ⟨X.heap.size,1,none⟩):=aM 9 73 (by omega) rfl (by simp)
          have e2:ev (.tmp 72)=v':=aM 8 72 (by omega) rfl (by simp);have h8:Ls 8=true:=dY ⟨8,.data⟩ (by simp) rfl;obtain rfl:V=w2:=by
           unfold Ku.zL at hC;rw[dQ,h8] at hC;exact hC
          refine aq.gP (w':=V.setCell ⟨X.heap.size,1,none⟩ v') (by rw[hv'] at e2 ⊢;simp[execOp,go_sem,e1,e2,k1,kf]) ⟨rfl,?_⟩;unfold Ku.zL;rw[if_pos (show aq.bM Ls 10 10=true from rfl)]
        .intro Ls V hall hC
         unfold Ku.zL at hC;rw[if_pos (hall 10 (by decide))] at hC;subst hC;simp only[aq.canon,aq.dst,Array.size,abS,acY];simp[Act.put];clear hall;rw[hv'] at HN ⊢;clear hv' hrun;go_wp2;go_roundw
         case rel=>exact⟨k+1,vo,vc,by omega,by go_num,by rw[HT.out];simpa using HN.out⟩
         case measure=>simp[intOf];omega
      .have aaY:¬((k:Int)<(es.length:Int)):=by omega
       rw[Ku.TD (by omega)] at H y1 hH;obtain⟨hv',hP',Qs⟩:=q9.out i hin;obtain⟨fs,hfs⟩:∃fs,es.eraseIdx i=fs:=⟨_,rfl⟩;have hfl:fs.length+1=es.length:=by rw[<-hfs];exact Ku.Pu hin
       rw[hfs] at H y1 hH hv' hP' Qs;obtain⟨a',c',e',he'⟩:=hH.Ae;cases e';have HF:=ζ he';have HC:Hid (Calls prog 6 #[.agg #[.int .i64 (m:Int),.slice a fs.length c]] wr fun e w'=>∃a c,e= .returned (.agg #[.int .i64 (m:Int),.slice a fs.length c])/\aN w' a fs/\Below wr.heap.size wr w'):=ζ ((C8 (m:Int) a c fs wr he' (by omega)).mono (by
        rintro e w' ⟨v,rfl,h1,h2⟩;obtain⟨a,c,rfl,_,_,h3,_⟩:=h1.form;exact⟨a,c,rfl,h3,h2⟩))
       have yZ:Hid (∀a c W,aN W a fs->Calls prog 7 #[.agg #[.int .i64 (m:Int),.slice a fs.length c]] W fun e w'=>e= .returned (.tuple #[.bool true,.int .i64 0])/\Below W.heap.size W w'):=fun a c W h=>(Db (m:Int) a c fs W h (by omega)).mono (by
        rintro e w' ⟨rfl,h2⟩;rw[Ua hv' hP',Si.bQ.2 hv'];exact⟨rfl,h2⟩)
       have HP:Hid (∀a c W,aN W a fs->Calls prog 5 #[.agg #[.int .i64 (m:Int),.slice a fs.length c]] W (Ku.Tf (Ku.kr (m:Int) fs) W)):=fun a c W h=>tL (m:Int) a c fs W h (by omega)
       obtain⟨⟨UD,WV,ps',is',z'⟩,hr⟩:∃r,Ku.kr (m:Int) fs=r:=⟨_,rfl⟩;rw[hr] at HP Qs;dsimp only at Qs;subst Qs;unfold Ku.Tf at HP;dsimp only at HP;clear hH he' hv' hP' hr hfs hfl
       go_wp2_with (first
        |(go_at_call 6;refine HC.out.mono ?_;rintro e w6 ⟨a6,c6,rfl,he6,eC⟩;have HE:=ζ he6;have H6:=ζ (H.out.later eC);clear he6 eC)
        |(go_at_call 7;refine(yZ.out _ _ _ HE.out).mono ?_;rintro e w7 ⟨rfl,mQ⟩;have H7:=ζ (H6.out.later mQ);clear mQ;refine abQ ?_))
       refine ζ ?_;clear x0 x1 y0 y1 yf HE H6 HC yZ;obtain⟨y0,y1,yf⟩:=H7.out.cells;obtain⟨a8,c8,e8,he8⟩:=H7.out.Ae;cases e8;have HE8:=ζ he8;clear he8;go_wp2_with (go_at_call 5;refine(HP.out _ _ _ HE8.out).mono ?_;rintro e w8 ⟨a9,c9,a10,c10,rfl,-,-,qL⟩;have G8:=ζ (H7.out.g.later qL);clear qL;refine abQ ?_);refine ζ ?_;clear y0 y1 yf;obtain⟨V8,hV8⟩:∃V8,V8=w8.alloc (.cells #[.int .i64 UD,.slice a9 WV.length c9,.slice a10 ps'.length c10] 30):=⟨_,rfl⟩;have abd:Below w8.heap.size w8 V8:=by rw[hV8];exact(aae _ _).alloc (aad _) _
       have GV8:=ζ (G8.out.later abd);have HV8:=ζ hV8;clear abd hV8 G8;go_wp2;go_roundw
       case rel=>exact⟨i+1,by omega,by omega,by go_num,by rw[<-HV8.out];exact GV8.out⟩
       case measure=>simp[intOf];omega
    .have h8i:¬((i:Int)<80):=by omega
     clear hG;go_wp2;go_ret;exact⟨rfl,GX.out.low⟩
   .have hd:¬((i:Int)<(es.length:Int)):=by omega
    clear hG;go_wp2;go_ret;exact⟨rfl,GX.out.low⟩
theorem contract (H:Type) (enc:TypeId×Value->H) (W:World) (base:Nat) (args:Array Value) (ds gs:List (DataW H)) (before:List MemPlace)
 (hval:∀(j:Nat) t v,Tryz.f3.params[j]? =some t->args[j]? =some v->Value.okWide prog W .any base t v)
 (hW:DataW.Whole enc prog Tryz.f3.params.toList Rows.kuraVerdictSpec.vars false W args.toList ds gs before)
 (hsz:(DataW.weightsEach prog (Tryz.f3.params.toList++(OpenSpec.ofChange Rows.kuraVerdictSpec).bare.plain.varTypes prog) (ds++gs)).all (·<=reachBytes)=true)
 :
 Calls prog 3 args W fun e W'=>∃v,e= .returned v/\Rows.kuraVerdictSpec.post enc prog Tryz.f3 false true false false W args v W':=by
 have hW':=hW;obtain⟨p,q,hA0,hV,rfl,hfz,hnd⟩:=hW;have hA:DataW.TrodAll enc prog W 0 (fun _=>true) true Tryz.f3.params.toList args.toList ds p:=hA0;rw[Tryz.params3] at hA hval hsz;obtain⟨v0,vs0,d0,ds0,p0,q0,hargs,rfl,rfl,h0,r0⟩:=trodAll_cons hA;obtain⟨rfl,rfl,rfl⟩:=trodAll_nil r0;obtain rfl:args= #[v0]:=by cases args;simp_all
 obtain⟨rfl,rfl⟩:=trodVars_none hV;have k0:=h0;have lt0:∀x∈p0,x.block<W.heap.size:=by obtain⟨m,hm⟩:=k0;exact DataW.trod_lt m _ _ _ hm
 obtain⟨n0,a0,aih,q0,rfl,x0,w0,u0⟩:=Eh (j:=0) (hval 0 24 v0 rfl rfl) h0 hsz rfl rfl;clear hA0;refine(walk n0 a0 aih q0 W x0 w0 u0).mono fun e W' ⟨he,aZ⟩=> ?_
 subst he;exact⟨_,rfl,_,_,_,[],_,[],hW',trodAll_mk1 (shut_bool Tryz.underlying4 _),(trodAll_cons_mk (Below.trod laidOut (by kernel_rfl) (of_decide_eq_true (by kernel_rfl)) k0 aZ lt0) trodAll_mk0),rfl,aZ.frame _,fun h=>by cases h⟩
theorem laid_met (os:Os):laidMet prog Rows.kuraVerdictRow.laid ((settled os).forCall (fun _ _=>0) ⟨#[],#[.agg #[.int .i64 0,.slice none 0 0]],[]⟩).memory:=
 laidMet_of_run' 100 (by kernel_rfl) (by kernel_rfl)
theorem reads (os:Os) {H:Type} (enc:TypeId×Value->H):∃places,DataW.whole enc prog ((settled os).forCall (fun _ _=>0) ⟨#[],#[.agg #[.int .i64 0,.slice none 0 0]],[]⟩).memory Tryz.f3.params.toList Rows.kuraVerdictSpec.vars false (#[.agg #[.int .i64 0,.slice none 0 0]]:Array Value).toList 8=some ([.agg [.lit (.int .i64 0),.nil]],[],places):=
 ⟨[],by kernel_rfl⟩
theorem lifted (os:Os) (started:os.Started) (H:Type) (enc:TypeId×Value->H) (F:Stop.Interp):
 ReturnsInHanded {} Tryz.checked os 3 .any ((OpenSpec.ofChange Rows.kuraVerdictSpec).preRow enc prog Tryz.f3 Rows.kuraVerdictRow.domain false Rows.kuraVerdictRow.laid) (((OpenSpec.ofChange Rows.kuraVerdictSpec).at F).post enc prog Tryz.f3 false true false false):=by
 obtain⟨places,hx⟩:=reads os enc
 refine returnsInHanded_of_row (C:=Tryz.checked) (s:=(OpenSpec.ofChange Rows.kuraVerdictSpec)) own started (by kernel_rfl) func3
  (witness_row_at (enc:=enc) (C:=Tryz.checked) false (settled os) #[.agg #[.int .i64 0,.slice none 0 0]] rfl (by kernel_rfl) (by kernel_rfl) (by kernel_rfl)
    (OpenSpec.preRow_of_cond 8 hx (by kernel_rfl) (fun k hk=>by cases hk) (by kernel_rfl) (laid_met os))) ?_
 intro W base args ds gs before hval hW _ _ hsz _ _ _;exact contract H enc W base args ds gs before hval hW hsz
theorem said:Rows.KuraVerdictSaid:=
 OpenClaim.holds_of_cond 3 Tryz.f3 rfl rfl rfl rfl rfl rfl rfl ⟨rfl,rfl,rfl,rfl,rfl⟩ rfl rfl rfl rfl rfl (by kernel_rfl) func3 (by kernel_rfl)
  (of_decide_eq_true (by kernel_rfl)) (by unfold Func.isWrapper;first|(rw[if_pos (by decide +kernel)];kernel_rfl)|(rw[if_neg (by decide +kernel)];exact⟨rfl,rfl⟩))
  (fun os started H enc _ F=>by rw[OpenClaim.pre_eq_preRow];exact lifted os started H enc F)
end Qd
theorem kuraVerdict_holds:Rows.KuraVerdictSaid:=Qd.said
#print axioms kuraVerdict_holds
end Go.Proofs.YtbhdibflpjhpaaaGreat
