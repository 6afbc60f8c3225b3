import Derived.Test.YtbhdibflpjhpaaaGreatMg18
import Derived.Test.YtbhdibflpjhpaaaGreatMg17
import Derived.Deep.Slices
set_option maxHeartbeats 16000000
set_option maxRecDepth 100000
namespace Go.Proofs.YtbhdibflpjhpaaaGreat
section
open Go.RowKit
namespace Kw
def row (a v:Nat):List (Int×Int):=(List.range' (a+1) (v-(a+1))).map fun b:Nat=>((a:Int),(b:Int))
def ke (N:Nat):Nat->List (Int×Int)
 |0=>[]
 |u+1=>ke N u++row u N
theorem Ry {a v:Nat} (h:a+1<=v):row a (v+1)=row a v++[((a:Int),(v:Int))]:=by
 unfold row;rw[show v+1-(a+1)=(v-(a+1))+1 by omega,List.range'_1_concat,acS,show a+1+(v-(a+1))=v by omega];rfl
end Kw
def Yg (N:Nat) (w:World) (e:Ending) (w':World):Prop:=∃ao cap,e= .returned (.agg #[.int .i64 (N:Int),.slice ao (Kw.ke N N).length cap])/\aN w' ao (Kw.ke N N)/\Below w.heap.size w w'
theorem BS (N:Nat) (hN:N<=10) (w:World):Calls Tryz.prog 8 #[.int .i64 (N:Int)] w (Yg N w):=by
 obtain⟨W1,hW1⟩:∃W1,W1=(w.alloc (.cells #[.int .i64 0,.slice none 0 0] 24)).alloc (.cells #[.int .i64 (N:Int),.slice none 0 0] 24):=⟨_,rfl⟩;have hb1:Below w.heap.size w W1:=by rw[hW1];exact((aae _ _).alloc (aad _) _).alloc (by simp) _
 have hs1:W1.heap.size=w.heap.size+2:=by rw[hW1];simp
 have a0:W1.heap[w.heap.size]? =some (.cells #[.int .i64 0,.slice none 0 0] 24 (0,0)):=by
  rw[hW1,ab2 _ _ _ (by simp)];exact heap_alloc_new w _
 have a1:W1.heap[w.heap.size+1]? =some (.cells #[.int .i64 (N:Int),.slice none 0 0] 24 (0,0)):=by
  rw[hW1];have:=heap_alloc_new (w.alloc (.cells #[.int .i64 0,.slice none 0 0] 24)) (.cells #[.int .i64 (N:Int),.slice none 0 0] 24);rw[show(w.alloc (.cells #[.int .i64 0,.slice none 0 0] 24)).heap.size=w.heap.size+1 by simp] at this;exact this
 have pE:=ζ hW1;have aY:=ζ hb1;have Tj:=ζ hs1;have HA0:=ζ a0;have Yd:=ζ a1;clear hW1 hb1 hs1 a0 a1;go_enter Tryz.func8,Tryz.ntmps8;go_wp2_with fail;rw[<-pE.out];go_loopw [4] (fun uv wr=>∃(u:Nat) (v:Value),uv= .int .i64 (u:Int)/\u<=N/\(Kw.ke N u).length<=u*16/\wr.heap[w.heap.size]? =some (.cells #[.int .i64 0,.slice none 0 0] 24 (0,0))/\wr.heap[w.heap.size+1]? =some (.cells #[.int .i64 (N:Int),v] 24 (0,0))/\dW wr (w.heap.size+2) v (Kw.ke N u)/\Below w.heap.size w wr/\w.heap.size+2<=wr.heap.size) (fun uv _=>N-(intOf uv).toNat)
 case atStart=>exact⟨0,_,rfl,ab6 _,by simp[Kw.ke],HA0.out,Yd.out,ad6 _ _ _ _,aY.out,by have:=Tj.out;omega⟩
 case round=>
  obtain⟨u,v,rfl,huN,zX,b0,b1,hown,fW,hsz⟩:=hrel;by_cases hlt:u<N
  .have i1:(u:Int)<(N:Int):=by omega
   have i2:(u:Int)+1<=11:=by omega
   have HST:Hid ((Kw.ke N u++Kw.row u (u+1)).length<=u*16+(u+1)/\wr.heap[w.heap.size]? =some (.cells #[.int .i64 0,.slice none 0 0] 24 (0,0))/\wr.heap[w.heap.size+1]? =some (.cells #[.int .i64 (N:Int),v] 24 (0,0))/\dW wr (w.heap.size+2) v (Kw.ke N u++Kw.row u (u+1))/\Below w.heap.size w wr/\w.heap.size+2<=wr.heap.size):=by
    have e:Kw.row u (u+1)=[]:=by unfold Kw.row;simp
    rw[e,acH];exact⟨by omega,b0,b1,hown,fW,hsz⟩
   clear b0 b1 hown fW hsz zX;go_wp2_with fail;go_loopw [5] (fun vv wr=>∃(x:Nat) (v:Value),vv= .int .i64 (x:Int)/\u+1<=x/\x<=N/\(Kw.ke N u++Kw.row u x).length<=u*16+x/\wr.heap[w.heap.size]? =some (.cells #[.int .i64 0,.slice none 0 0] 24 (0,0))/\wr.heap[w.heap.size+1]? =some (.cells #[.int .i64 (N:Int),v] 24 (0,0))/\dW wr (w.heap.size+2) v (Kw.ke N u++Kw.row u x)/\Below w.heap.size w wr/\w.heap.size+2<=wr.heap.size) (fun vv _=>N-(intOf vv).toNat)
   case atStart=>exact⟨u+1,v,by simp,aad _,hlt,HST.out⟩
   case round=>
    obtain⟨x,v',rfl,hux,hxN,zX,b0,b1,hown,fW,hsz⟩:=hrel;by_cases hx:x<N
    .have j1:(x:Int)<(N:Int):=by omega
     have j2:(x:Int)+1<=11:=by omega
     obtain⟨x0,x1,x2⟩:=aj b1;obtain⟨l,hl⟩:∃l,Kw.ke N u++Kw.row u x=l:=⟨_,rfl⟩;have jd:Kw.ke N u++Kw.row u (x+1)=l++[((u:Int),(x:Int))]:=by rw[Kw.Ry hux,<-ace,hl]
     rw[hl] at hown zX;obtain⟨vo,vc,qH,-,-,-,-⟩:=hown.form;subst qH;have jm:=ζ hown;have fo:=ζ b0;have aY:=ζ b1;have zj:=ζ fW;have kD:=ζ jd;have Z7:=ζ zX;clear b0 b1 hown fW hl jd zX;go_wp2_with (at_builtin;refine E7 rfl _ _ rfl wr (w.heap.size+2) (.slice vo l.length vc) l (u:Int) (x:Int) jm.out hsz (by have:=Z7.out;omega) rfl rfl ?_;refine abQ ?_);refine ζ ?_;intro v5 w5 Ob hb5;have e0:=(hb5.block w.heap.size (by omega)).trans fo.out;have e1:=(hb5.block (w.heap.size+1) (by omega)).trans aY.out;obtain⟨y0,y1,y2⟩:=aj e1;obtain⟨JH,JI,hv5,-,-,-,-⟩:=Ob.form;rw[abZ,adb] at hv5;subst hv5;have pS:Hid ((w5.setCell ⟨w.heap.size+1,1,none⟩ (.slice JH (l.length+1) JI)).heap[w.heap.size]? =some (.cells #[.int .i64 0,.slice none 0 0] 24 (0,0))/\(w5.setCell ⟨w.heap.size+1,1,none⟩ (.slice JH (l.length+1) JI)).heap[w.heap.size+1]? =some (.cells #[.int .i64 (N:Int),.slice JH (l.length+1) JI] 24 (0,0))/\dW (w5.setCell ⟨w.heap.size+1,1,none⟩ (.slice JH (l.length+1) JI)) (w.heap.size+2) (.slice JH (l.length+1) JI) (l++[((u:Int),(x:Int))])/\Below w.heap.size w (w5.setCell ⟨w.heap.size+1,1,none⟩ (.slice JH (l.length+1) JI))/\w.heap.size+2<=(w5.setCell ⟨w.heap.size+1,1,none⟩ (.slice JH (l.length+1) JI)).heap.size):=by
      refine⟨(heap_setCell_other w5 ⟨w.heap.size+1,1,none⟩ _ _ (by simp)).trans e0,?_,?_,?_,?_⟩
      .have:=heap_setCell_same w5 (w.heap.size+1) 1 _ _ (.slice JH (l.length+1) JI) e1
       simpa using this
      .refine lQ Ob fun g hg hB _=>heap_setCell_other w5 ⟨w.heap.size+1,1,none⟩ g _ (by show g≠w.heap.size+1;omega)
      .exact((zj.out.trans (hb5.mono (by omega))).setCell (p:=⟨w.heap.size+1,1,none⟩) (by show w.heap.size<=w.heap.size+1;omega) _)
      .have:=hb5.size
       simp;omega
     clear e0 e1 Ob hb5 x0 x1 x2;go_wp2_with fail;go_roundw
     case rel=>
      obtain⟨r1,r2,r3,r4,r5⟩:=pS.out;refine⟨x+1,_,by simp,by omega,hx,?_,r1,r2,?_,r4,r5⟩
      .rw[kD.out]
       have:=Z7.out;simp;omega
      .rw[kD.out]
       exact r3
     case measure=>
      simp[intOf];omega
    .obtain rfl:x=N:=by omega
     have pS:Hid ((Kw.ke x (u+1)).length<=(u+1)*16/\wr.heap[w.heap.size]? =some (.cells #[.int .i64 0,.slice none 0 0] 24 (0,0))/\wr.heap[w.heap.size+1]? =some (.cells #[.int .i64 (x:Int),v'] 24 (0,0))/\dW wr (w.heap.size+2) v' (Kw.ke x (u+1))/\Below w.heap.size w wr/\w.heap.size+2<=wr.heap.size):=⟨by show(Kw.ke x u++Kw.row u x).length<=_;omega,b0,b1,hown,fW,hsz⟩;clear b0 b1 hown fW hsz zX;go_wp2_with fail;go_roundw
     case rel=>exact⟨u+1,v',by simp,hlt,pS.out⟩
     case measure=>
      simp[intOf];omega
  .obtain rfl:u=N:=by omega
   obtain⟨vo,vc,qH,-,-,hat,-⟩:=hown.form;subst qH;obtain⟨x0,x1,x2⟩:=aj b1;obtain⟨z0,z1,z2⟩:=aj b0;have fo:=ζ b0;have HAT:=ζ hat;have zj:=ζ fW;have jm:=ζ hown;clear b0 b1 hown fW hat zX;go_wp2_with fail;refine bodyPost_ret (v:= .agg #[.int .i64 (u:Int),.slice vo (Kw.ke u u).length vc]) (results_cell_row (p:=2) (ty:=24) Tryz.results8 _ _ w.heap.size 24 _ (0,0) _ rfl (ju fo.out _ _) Tryz.underlying24 rfl (by kernel_rfl)) rfl ?_;refine⟨vo,vc,rfl,?_,?_⟩
   .have h1:dW ((wr.setCell ⟨w.heap.size,0,none⟩ (.int .i64 (u:Int))).setCell ⟨w.heap.size,1,none⟩ (.slice vo (Kw.ke u u).length vc)) (w.heap.size+2) (.slice vo (Kw.ke u u).length vc) (Kw.ke u u):=lQ jm.out fun g hg hB _=>by
     rw[heap_setCell_other _ ⟨w.heap.size,1,none⟩ g _ (by show g≠w.heap.size;omega),heap_setCell_other _ ⟨w.heap.size,0,none⟩ g _ (by show g≠w.heap.size;omega)]
    obtain⟨vo',vc',e,-,-,hat,-⟩:=h1.form;cases e;exact hat
   .exact(zj.out.setCell (p:=⟨w.heap.size,0,none⟩) (aad _) _).setCell (p:=⟨w.heap.size,1,none⟩) (aad _) _
end
section
open Go.Proofs.Tryz
open Go.RowKit Go.Sort Go.Maps
theorem Nj (w:World):Calls prog 9 #[] w fun e w'=>∃b,e= .returned (.agg #[.int .i64 6,.slice (some ⟨b,0,none⟩) 9 9])/\aN w' (some ⟨b,0,none⟩) Ku.ep/\Below w.heap.size w w':=by
 go_enter func9,ntmps9;go_wp2;refine bodyPost_ret (v:= .agg #[.int .i64 6,.slice (some ⟨w.heap.size+1,0,none⟩) 9 9]) (by simp[results,results9,go_sem]) rfl ?_;refine⟨w.heap.size+1,rfl,sK.at ?_,((aae _ _).alloc (aad _) _).alloc (by simp) _⟩;have:=heap_alloc_new (w.alloc (.cells #[.int .i64 6,.slice (some ⟨w.heap.size+1,0,none⟩) 9 9] 24)) (.cells (kU Ku.ep).toArray 38);rw[acC] at this;exact this
theorem OU (w:World):Calls prog 8 #[.int .i64 5] w fun e w'=>∃ao cap,e= .returned (.agg #[.int .i64 5,.slice ao 10 cap])/\aN w' ao Ku.e5/\Below w.heap.size w w':=
 (BS 5 (by omega) w).mono fun e w' ⟨ao,cap,h1,h2,h3⟩=>by
   rw[show Kw.ke 5 5=Ku.e5 by decide] at h1 h2;exact⟨ao,cap,h1,h2,h3⟩
namespace Ku
def ais (w:World) (e:Ending) (w':World):Prop:=∃(ba:Option Addr) (bc pg pc:Nat) (pa:Option Addr) (p9:Nat),e= .returned (.tuple #[.agg #[.int .i64 1,.slice ba 5 bc,.slice (some ⟨pg,0,none⟩) 10 pc],.bool true,.int .i64 0])/\bV w' ba [0,1,2,3,4]/\w'.cell? ⟨pg,9,none⟩=some (.slice pa 2 p9)/\bV w' pa [3,4]/\Below w.heap.size w w'
end Ku
theorem RF (ao:Option Addr) (cap:Nat) (w:World) (he:aN w ao Ku.e5):Calls prog 5 #[.agg #[.int .i64 5,.slice ao 10 cap]] w (Ku.ais w):=
 (ng 5 ao cap Ku.e5 w he (by decide)).mono fun e w' ⟨hc,hb⟩=>by
   rcases hc with ⟨hv,_⟩|⟨m,hv,hm,ha⟩
   .have h1:Si.valid 5 Ku.e5=true:=Si.bQ.2 Ku.abW
    rw[h1] at hv;cases hv
   .obtain rfl:m=5:=by omega
    rw[Ku.afz hv] at ha;obtain⟨bv,pv,vs,rfl,h1,h2,-⟩:=ha;obtain⟨ba,bc,rfl,h3,-⟩:=h1.form;obtain⟨pg,pc,rfl⟩:=Rz h2 (by decide);obtain⟨su,c',e1,hr⟩:=Ku.nT h2;cases e1;obtain⟨b,o,x,e2,hx,a9,c9,rfl,hi⟩:=hr 9 [3,4] rfl;cases e2;exact⟨ba,bc,pg,_,a9,c9,rfl,h3,hx,hi,hb⟩
theorem RD (ao:Option Addr) (cap:Nat) (w:World) (he:aN w ao Ku.ep):Calls prog 5 #[.agg #[.int .i64 6,.slice ao 9 cap]] w fun e w'=>e= .returned (.tuple #[.agg #[.int .i64 0,.slice none 0 0,.slice none 0 0],.bool false,.int .i64 0])/\Below w.heap.size w w':=
 (ng 6 ao cap Ku.ep w he (by decide)).mono fun e w' ⟨hc,hb⟩=>by
   rcases hc with ⟨hv,_⟩|⟨m,hv,hm,ha⟩
   .have h1:Si.valid 6 Ku.ep=true:=Si.bQ.2 Ku.abV
    rw[h1] at hv;cases hv
   .obtain rfl:m=6:=by omega
    rw[Ku.afy hv] at ha;exact⟨ha,hb⟩
theorem Jf (ao:Option Addr) (cap:Nat) (w:World) (he:aN w ao Ku.e4):Calls prog 10 #[.agg #[.int .i64 4,.slice ao 4 cap]] w fun e w'=>∃a c,e= .returned (.tuple #[.slice a 2 c,.int .i64 0])/\Ku.ni w' (.slice a 2 c) [[2,0,1,2],[2,3]]/\Below w.heap.size w w':=
 (Hz 4 ao cap Ku.e4 w he (by decide)).mono fun e w' ⟨hc,hb⟩=>by
   rcases hc with ⟨hv,_⟩|⟨hv,v,us,rfl,hr⟩
   .have h1:Si.valid 4 Ku.e4=true:=Si.bQ.2 Ku.abX
    rw[h1] at hv;cases hv
   .rw[Ku.ab9 hv] at hr
    obtain⟨a,c,rfl⟩:=gU hr;exact⟨a,c,rfl,Ku.nT hr,hb⟩
theorem AD {ao:Option Addr} {c k:Nat} {l:List Int} {W:World} (V:World) (hk:l.length=k) (h:bV W ao l) (hb:Below W.heap.size W V) (hl:k<=1000):
 Calls prog 11 #[.slice ao k c,.slice (some ⟨V.heap.size,0,none⟩) k k] (V.alloc (.cells (l.map (Value.int .i64)).toArray 3)) fun e w'=>e= .returned (.bool true)/\Below V.heap.size V w':=by
 have hb1:Below V.heap.size V (V.alloc (.cells (l.map (Value.int .i64)).toArray 3)):=(aae _ _).alloc (aad _) _;have hi:af (V.alloc (.cells (l.map (Value.int .i64)).toArray 3)) V.heap.size l:=heap_alloc_new V _;refine(wu ao (some ⟨V.heap.size,0,none⟩) c k k k l l _ hk hk ((h.later hb).later hb1) hi.at (by omega)).mono ?_;rintro e w' ⟨h1,h2⟩;exact⟨by rw[h1];simp,hb1.trans (h2.mono hb1.size)⟩
theorem R9 (v:Value) (V:World) (h:Ku.ni V v [[2,0,1,2],[2,3]]):
 Calls prog 12 #[v,.slice (some ⟨V.heap.size+2,0,none⟩) 2 2] (((V.alloc (.cells #[.int .i64 2,.int .i64 0,.int .i64 1,.int .i64 2] 3)).alloc (.cells #[.int .i64 2,.int .i64 3] 3)).alloc (.cells #[.slice (some ⟨V.heap.size,0,none⟩) 4 4,.slice (some ⟨V.heap.size+1,0,none⟩) 2 2] 27)) fun e w'=>e= .returned (.bool true)/\Below V.heap.size V w':=by
 obtain⟨V1,hV1⟩:∃V1,V1=V.alloc (.cells #[.int .i64 2,.int .i64 0,.int .i64 1,.int .i64 2] 3):=⟨_,rfl⟩;obtain⟨V2,hV2⟩:∃V2,V2=V1.alloc (.cells #[.int .i64 2,.int .i64 3] 3):=⟨_,rfl⟩;obtain⟨V3,hV3⟩:∃V3,V3=V2.alloc (.cells #[.slice (some ⟨V.heap.size,0,none⟩) 4 4,.slice (some ⟨V.heap.size+1,0,none⟩) 2 2] 27):=⟨_,rfl⟩;rw[<-hV1,<-hV2,<-hV3];have b1:Below V.heap.size V V1:=by rw[hV1];exact(aae _ _).alloc (aad _) _
 have b2:Below V1.heap.size V1 V2:=by rw[hV2];exact(aae _ _).alloc (aad _) _
 have b3:Below V2.heap.size V2 V3:=by rw[hV3];exact(aae _ _).alloc (aad _) _
 have s1:V1.heap.size=V.heap.size+1:=by rw[hV1];simp
 have s2:V2.heap.size=V.heap.size+2:=by rw[hV2];simp;omega
 have hb:Below V.heap.size V V3:=(b1.trans (b2.mono b1.size)).trans (b3.mono (by omega));have i1:af V1 V.heap.size [2,0,1,2]:=by rw[hV1];exact heap_alloc_new V _
 have i2:af V2 (V.heap.size+1) [2,3]:=by rw[hV2,<-s1];exact heap_alloc_new V1 _
 have i3:V3.heap[V.heap.size+2]? =some (.cells #[.slice (some ⟨V.heap.size,0,none⟩) 4 4,.slice (some ⟨V.heap.size+1,0,none⟩) 2 2] 27 (0,0)):=by rw[hV3,<-s2];exact heap_alloc_new V2 _
 obtain⟨c0,c1,-⟩:=aj i3;refine(Bq v (.slice (some ⟨V.heap.size+2,0,none⟩) 2 2) [[2,0,1,2],[2,3]] V3 (h.later hb) ⟨some ⟨V.heap.size+2,0,none⟩,2,rfl,fun k l hl=> ?_⟩ (by decide) (by decide)).mono ?_
 .match k,hl with
  |0,hl=>
   cases hl;exact⟨_,0,_,rfl,c0,some ⟨V.heap.size,0,none⟩,4,rfl,((i1.later b2).later b3).at⟩
  |1,hl=>
   cases hl;exact⟨_,0,_,rfl,c1,some ⟨V.heap.size+1,0,none⟩,2,rfl,(i2.later b3).at⟩
 .rintro e w' ⟨rfl,h2⟩
  exact⟨rfl,hb.trans (h2.mono hb.size)⟩
theorem Hf (w:World):Calls prog 4 #[] w fun e w'=>e= .returned (.bool true)/\Below w.heap.size w w':=by
 have HC5:=ζ (OU w);go_enter func4,ntmps4;go_wp2_with (go_at_call 8;refine HC5.out.mono ?_;refine abQ ?_);refine ζ ?_;rintro e w1 ⟨a1,c1,rfl,aM,hb1⟩;have HR5:=ζ (RF a1 c1 w1 aM);have aY:=ζ hb1;clear aM hb1;go_wp2_with (go_at_call 5;refine HR5.out.mono ?_;refine abQ ?_);refine ζ ?_;rintro e w2 ⟨ba,bc,pg,pc,pa,p9,rfl,K4,NY,Oi,hb2⟩;obtain⟨V,hV⟩:∃V,V=w2.alloc (.cells #[.int .i64 1,.slice ba 5 bc,.slice (some ⟨pg,0,none⟩) 10 pc] 30):=⟨_,rfl⟩;have xj:Below w2.heap.size w2 V:=by rw[hV];exact(aae _ _).alloc (aad _) _
 have gV:V.heap[w2.heap.size]? =some (.cells #[.int .i64 1,.slice ba 5 bc,.slice (some ⟨pg,0,none⟩) 10 pc] 30 (0,0)):=by rw[hV];exact heap_alloc_new w2 _
 have HV:=ζ hV;have HK:Hid (∀U:World,Below V.heap.size V U->(U.cell? ⟨w2.heap.size,0,none⟩=some (.int .i64 1)/\U.cell? ⟨w2.heap.size,1,none⟩=some (.slice ba 5 bc)/\U.cell? ⟨w2.heap.size,2,none⟩=some (.slice (some ⟨pg,0,none⟩) 10 pc))/\bV U ba [0,1,2,3,4]/\U.cell? ⟨pg,9,none⟩=some (.slice pa 2 p9)/\bV U pa [3,4]):=fun U hU=>by
  obtain⟨k0,k1,k2,-⟩:=cu ((hU.block _ (lt_of_block gV)).trans gV);have hlt:=block_lt_of_cell NY;have hb:Below w2.heap.size w2 U:=xj.trans (hU.mono xj.size);exact⟨⟨k0,k1,k2⟩,K4.later hb,(hb.cell (p:=⟨pg,9,none⟩) hlt).trans NY,Oi.later hb⟩
 have Jw:Hid (Below w.heap.size w V):=by
  have:=aY.out.trans (hb2.mono aY.out.size);exact this.trans (xj.mono this.size)
 have HPR:=ζ (Nj V);have Fg:w2.heap.size<V.heap.size:=lt_of_block gV;clear hV xj gV K4 NY Oi hb2 HR5 HC5;go_wp2_with (go_at_call 9;rw[<-HV.out];refine HPR.out.mono ?_;refine abQ ?_);refine ζ ?_;rintro e w3 ⟨b3,rfl,he3,hb3⟩;have ZW:=ζ (RD (some ⟨b3,0,none⟩) 9 w3 he3);have cz:=ζ hb3;clear he3 hb3 HPR;go_wp2_with (go_at_call 5;refine ZW.out.mono ?_;rintro e w4 ⟨rfl,hb4⟩;refine abQ ?_);refine ζ ?_;have iE:=ζ (cz.out.trans (hb4.mono cz.out.size));obtain⟨X,hX⟩:∃X,X=(w4.alloc (.cells #[.int .i64 0,.slice none 0 0,.slice none 0 0] 30)).alloc (.cells #[.int .i64 0,.int .i64 1,.int .i64 0,.int .i64 2,.int .i64 1,.int .i64 2,.int .i64 2,.int .i64 3] 38):=⟨_,rfl⟩;have Ot:Below w4.heap.size w4 X:=by rw[hX];exact((aae _ _).alloc (aad _) _).alloc (by simp) _
 have hE:aN X (some ⟨w4.heap.size+1,0,none⟩) Ku.e4:=by
  refine sK.at ?_;have:=heap_alloc_new (w4.alloc (.cells #[.int .i64 0,.slice none 0 0,.slice none 0 0] 30)) (.cells (kU Ku.e4).toArray 38);rw[acC] at this;rw[hX];exact this
 have HX:=ζ hX;have oM:=ζ (iE.out.trans (Ot.mono iE.out.size));have Mv:=ζ (Jf (some ⟨w4.heap.size+1,0,none⟩) 4 X hE);clear hb4 hX Ot hE ZW;go_wp2_with (go_at_call 10;rw[<-HX.out];refine Mv.out.mono ?_;refine abQ ?_);refine ζ ?_;rintro e w5 ⟨la,lc,rfl,Fh,hb5⟩;have VI:=oM.out.trans (hb5.mono oM.out.size);obtain⟨⟨k0,k1,k2⟩,K4,NY,Oi⟩:=HK.out w5 VI;have HL5:=ζ Fh;have HI5:=ζ K4;have jN:=ζ VI;have Tj:Hid (Calls prog 11 #[.slice ba 5 bc,.slice (some ⟨w5.heap.size,0,none⟩) 5 5] (w5.alloc (.cells #[.int .i64 0,.int .i64 1,.int .i64 2,.int .i64 3,.int .i64 4] 3)) fun e w'=>e= .returned (.bool true)/\Below w5.heap.size w5 w'):=AD (c:=bc) (k:=5) w5 rfl K4 (aae _ _) (by omega);clear Fh K4 Oi NY hb5 VI Mv;go_wp2_with (go_at_call 11;refine Tj.out.mono ?_;rintro e w6 ⟨rfl,eC⟩;refine abQ ?_);refine ζ ?_;have VH:=jN.out.trans (eC.mono jN.out.size);clear k0 k1 k2;obtain⟨⟨k0,k1,k2⟩,K4,NY,Oi⟩:=HK.out w6 VH;have oN:=ζ VH;have HL6:=ζ (HL5.out.later eC);have Mh:Hid (Calls prog 11 #[.slice pa 2 p9,.slice (some ⟨w6.heap.size,0,none⟩) 2 2] (w6.alloc (.cells #[.int .i64 3,.int .i64 4] 3)) fun e w'=>e= .returned (.bool true)/\Below w6.heap.size w6 w'):=AD (c:=p9) (k:=2) w6 rfl Oi (aae _ _) (by omega);clear K4 Oi eC VH Tj;go_wp2_with (go_at_call 11;refine Mh.out.mono ?_;rintro e w7 ⟨rfl,mQ⟩;refine abQ ?_);refine ζ ?_;have Ya:=ζ (oN.out.trans (mQ.mono oN.out.size));have xK:=ζ (R9 _ w7 (HL6.out.later mQ));clear k0 k1 k2 NY mQ Mh;go_wp2_with (go_at_call 12;refine xK.out.mono ?_;rintro e w8 ⟨rfl,qL⟩;refine abQ ?_);refine ζ ?_;have HB8:Hid (Below w.heap.size w w8):=Jw.out.trans ((Ya.out.trans (qL.mono Ya.out.size)).mono Jw.out.size);clear qL;go_wp2;go_ret;exact⟨rfl,HB8.out⟩
end
section
open Go.RowKit Go.Sort Go.Maps
structure nD (w:World) (n:Int) (ao:Option Addr) (ca:Nat) (es:List (Int×Int)) (W:World):Prop where
 at_:aN w ao es
 low:Below w.heap.size w W
 box:W.heap[w.heap.size]? =some (.cells #[.int .i64 n,.slice ao es.length ca] 24 (0,0))
section
variable {w W W':World} {n:Int} {ao:Option Addr} {ca:Nat} {es:List (Int×Int)}
theorem nD.start (h:aN w ao es):nD w n ao ca es (w.alloc (.cells #[.int .i64 n,.slice ao es.length ca] 24)):=⟨h,(aae _ _).alloc (aad _) _,heap_alloc_new w _⟩
theorem nD.later (h:nD w n ao ca es W) (hb:Below W.heap.size W W'):nD w n ao ca es W':=⟨h.at_,h.low.trans (hb.mono h.low.size),(hb.block _ (lt_of_block h.box)).trans h.box⟩
theorem nD.Ae (h:nD w n ao ca es W):aN W ao es:=h.at_.later h.low
theorem nD.cells (h:nD w n ao ca es W):W.cell? ⟨w.heap.size,0,none⟩=some (.int .i64 n)/\W.cell? ⟨w.heap.size,1,none⟩=some (.slice ao es.length ca):=by
 obtain⟨x0,x1,-⟩:=aj h.box;exact⟨x0,x1⟩
theorem nD.copy (h:nD w n ao ca es W) (hl:es.length*16<=140737488355328):Calls Tryz.prog 6 #[.agg #[.int .i64 n,.slice ao es.length ca]] W fun e w'=>∃a c,e= .returned (.agg #[.int .i64 n,.slice a es.length c])/\aN w' a es/\Below W.heap.size W w':=(C8 n ao ca es W h.Ae hl).mono (by
 rintro e w' ⟨v,rfl,h1,h2⟩;obtain⟨a,c,rfl,_,_,h3,_⟩:=h1.form;exact⟨a,c,rfl,h3,h2⟩)
end
namespace Ku
open Classical in
noncomputable def kc (n:Int) (es:List (Int×Int)):List (List Int)×Int:=if h:Si.Val n es then (rows es h es.length,0) else ([],1)
theorem FO (w:World):ni w (.slice none 0 0) []:=⟨none,0,rfl,fun k l h=>by simp at h⟩
open Classical in
noncomputable def kr (n:Int) (es:List (Int×Int)):Int×List Int×List (List Int)×Bool×Int:=
 if h:Si.Val n es then (match jB (rows es h es.length) es n.toNat with|none=>(0,[],[],false,0)|some (kd,br,ps)=>(kd,br,ps,true,0)) else (0,[],[],false,1)
def Tf (r:Int×List Int×List (List Int)×Bool×Int) (w:World) (e:Ending) (w':World):Prop:=
 ∃a1 c1 a2 c2,e= .returned (.tuple #[.agg #[.int .i64 r.1,.slice a1 r.2.1.length c1,.slice a2 r.2.2.1.length c2],.bool r.2.2.2.1,.int .i64 r.2.2.2.2])/\bV w' a1 r.2.1/\ni w' (.slice a2 r.2.2.1.length c2) r.2.2.1/\Below w.heap.size w w'
theorem Ge (w:World):bV w none []:=fun j x h=>by simp at h
theorem UB {n:Int} {es:List (Int×Int)} (h:Si.valid n es=false):kr n es=(0,[],[],false,1):=by
 have hn:¬Si.Val n es:=fun h'=>by rw[Si.bQ.2 h'] at h;cases h
 exact dif_neg hn
theorem Ce {m:Nat} {es:List (Int×Int)} (hv:Si.Val (m:Int) es):kr (m:Int) es=(match jB (rows es hv es.length) es m with|none=>(0,[],[],false,0)|some (kd,br,ps)=>(kd,br,ps,true,0)):=by
 unfold kr;rw[dif_pos hv,ach]
theorem acu {n:Int} {es:List (Int×Int)} {w w':World} {e:Ending} (h:Xn n es w e w'):Tf (kr n es) w e w':=by
 obtain⟨hc,hb⟩:=h;rcases hc with ⟨hv,rfl⟩|⟨m,hv,rfl,ha⟩
 .rw[UB hv]
  exact⟨none,0,none,0,rfl,Ge _,FO _,hb⟩
 .rw[Ce hv]
  cases hr:jB (rows es hv es.length) es m with
  |none=>
   rw[hr] at ha;exact⟨none,0,none,0,ha,Ge _,FO _,hb⟩
  |some x=>
   obtain⟨kd,br,ps⟩:=x;rw[hr] at ha;obtain⟨bv,pv,vs,rfl,h1,h2,-⟩:=ha;obtain⟨ba,bc,rfl,h3,-⟩:=h1.form;obtain⟨pa,pc,rfl⟩:=gU h2;exact⟨ba,bc,pa,pc,rfl,h3,nT h2,hb⟩
end Ku
theorem tL (n:Int) (ao:Option Addr) (cap:Nat) (es:List (Int×Int)) (w:World) (he:aN w ao es) (hl:es.length<=4611686018427387904):
 Calls Tryz.prog 5 #[.agg #[.int .i64 n,.slice ao es.length cap]] w (Ku.Tf (Ku.kr n es) w):=(ng n ao cap es w he hl).mono fun _ _ h=>Ku.acu h
end
section
open Pl
namespace Ku
section
variable {es:List (Int×Int)} {i k:Nat}
def wo (es:List (Int×Int)) (i k:Nat):List (Int×Int):=(es.take k).eraseIdx i
theorem JB:wo es i 0=[]:=by simp[wo]
theorem MB:(wo es i k).length<=k:=by
 unfold wo;have:=List.length_eraseIdx_le (es.take k) i;have:=List.length_take_le k es;omega
theorem xU {p:Int×Int} (hp:es[k]? =some p):es.take (k+1)=es.take k++[p]:=by
 rw[ade,hp];rfl
theorem Q8 {p:Int×Int} (hp:es[k]? =some p) (h:k≠i):wo es i (k+1)=wo es i k++[p]:=by
 have hk:k<es.length:=(aaf.1 hp).1;have hl:(es.take k).length=k:=by rw[adJ];omega
 unfold wo;rw[xU hp];by_cases c:i<k
 .rw[List.eraseIdx_append_of_lt_length (by omega)]
 .rw[aeK (by rw[abZ,hl];simp;omega),aeK (by omega)]
theorem TC {p:Int×Int} (hp:es[i]? =some p):wo es i (i+1)=wo es i i:=by
 have hk:i<es.length:=(aaf.1 hp).1;have hl:(es.take i).length=i:=by rw[adJ];omega
 unfold wo;have e:(es.take i).eraseIdx i=es.take i:=aeK (by omega);rw[xU hp,List.eraseIdx_append_of_length_le (by omega),hl,afL,e];simp
theorem TD (hk:es.length<=k):wo es i k=es.eraseIdx i:=by
 unfold wo;rw[acL hk]
theorem TB {j:Nat}:(es.eraseIdx i)[j]? =es[skip i j]? :=by
 rw[List.getElem?_eraseIdx];unfold skip
 split<;>rfl
theorem Pu (hi:i<es.length):(es.eraseIdx i).length+1=es.length:=by
 rw[List.length_eraseIdx,if_pos hi];omega
end
theorem JE {n:Int} {es:List (Int×Int)} (h:(kr n es).2.2.2.1=true):
 ∃m:Nat,n=(m:Int)/\Si.Val (m:Int) es/\¬fD es.length (eA es) (eB es)/\∀i,i<es.length->Si.Val (m:Int) (es.eraseIdx i)/\fD (es.eraseIdx i).length (eA (es.eraseIdx i)) (eB (es.eraseIdx i))/\(kr (m:Int) (es.eraseIdx i)).2.2.2.1=false:=by
 by_cases hv:Si.Val n es
 .obtain⟨m,rfl⟩:∃m:Nat,n=(m:Int):=⟨n.toNat,by have:=hv.lo;omega⟩
  refine⟨m,rfl,hv,?_⟩;rw[Ce hv] at h;cases hr:jB (rows es hv es.length) es m with
  |none=>
   rw[hr] at h;cases h
  |some x=>
   obtain⟨kd,br,ps⟩:=x;obtain⟨h1,h2⟩:=verdict hv hr;refine⟨h1,fun i hi=> ?_⟩;obtain⟨hv',hP,hn⟩:=h2 i (es.eraseIdx i) hi (Pu hi) fun j _=>TB
   refine⟨hv',hP,?_⟩;rw[Ce hv',hn]
 .rw[UB (Si.jX hv)] at h
  cases h
end Ku
end
section
open Go.Proofs.Tryz
open Go.ChangeShapes Go.WideShapes Go.ChangeAt Go.RowKit
theorem OX:prog.bytesOf 38=16:=by kernel_rfl
theorem LQ:prog.cellsOf 24=2:=by kernel_rfl
theorem LS:prog.cellsOf 22=1:=by kernel_rfl
section
variable {H:Type} {enc:TypeId×Value->H} {W:World} {base:Nat} {sp:Nat->Bool} {held:Bool}
def yU (cs:List Value):Prop:=∃a b:Int,cs=[.int .i64 a,.int .i64 b]/\jl (a,b)
theorem Hi {fuel:Nat} {cs:List Value} {x y:DataW H×List MemPlace} (hl:cs.length=2) (h0:DataW.trod enc prog W base sp held fuel 3 ((cs.drop 0).take 1)=some x) (h1:DataW.trod enc prog W base sp held fuel 3 ((cs.drop 1).take 1)=some y):yU cs:=by
 match cs,hl with
 |[u,v],_=>
  obtain⟨a,e0,_,w0⟩:=DataW.trod_int Tryz.underlying3 h0;obtain⟨b,e1,_,w1⟩:=DataW.trod_int Tryz.underlying3 h1;simp at e0 e1;subst e0;subst e1;exact⟨a,b,rfl,bounds_i64 w0,bounds_i64 w1⟩
theorem JK {e:TypeId} {f0 f1:Field} (he:prog.underlying e=some (.struct #[f0,f1])) (ce:prog.cellsOf e=2) (o0:f0.offset=0) (o1:f1.offset=1) (t0:f0.type=3) (t1:f1.type=3)
 {fuel:Nat} {cs:List Value} {x:DataW H×List MemPlace} (h:DataW.trod enc prog W base sp held fuel e cs=some x):yU cs:=by
 obtain⟨xs,m,_,_,hl,hx,hf⟩:=DataW.trod_struct he h;rw[ce] at hl
 match xs,hx with
 |[y0,y1],_=>
  have g0:=hf 0 f0 rfl;have g1:=hf 1 f1 rfl;simp only[o0,o1,t0,t1,xA] at g0 g1;exact Hi hl g0 g1
theorem Rc {fuel:Nat} {cs:List Value} {x:DataW H×List MemPlace} (h:DataW.trod enc prog W base sp held fuel 38 cs=some x):yU cs:=JK Tryz.underlying38 EB rfl rfl rfl rfl h
theorem RR {e:TypeId} {f0 f1:Field} (he:prog.underlying e=some (.struct #[f0,f1])) (o0:f0.offset=0) (o1:f1.offset=1) (t0:f0.type=3) (t1:f1.type=22) (c1:prog.cellsOf 22=1)
 {fuel:Nat} {u v:Value} {x:DataW H×List MemPlace} (h:DataW.trod enc prog W base sp held fuel e [u,v]=some x):
 ∃(m:Nat) (y0 y1:DataW H×List MemPlace),DataW.trod enc prog W base sp held m 3 [u]=some y0/\DataW.trod enc prog W base sp held m 22 [v]=some y1/\x.1= .agg [y0.1,y1.1]:=by
 obtain⟨xs,m,_,oY,hl,hx,hf⟩:=DataW.trod_struct he h
 match xs,hx with
 |[y0,y1],_=>
  have g0:=hf 0 f0 rfl;have g1:=hf 1 f1 rfl;simp only[o0,o1,t0,t1,xA,c1] at g0 g1;exact⟨m,y0,y1,by simpa using g0,by simpa using g1,by rw[oY];rfl⟩
structure EL (w:World) (ao:Option Addr) (len cap:Nat) (qs:List (Int×Int)):Prop where
 hlen:qs.length=len
 hat:aN w ao qs
 hnil:ao=none->qs=[]/\cap=0
 hwf:∀(j:Nat) (p:Int×Int),qs[j]? =some p->jl p
 hfit:len<=cap
theorem RM {t e:TypeId} {fuel:Nat} {a:Option Addr} {len cap:Nat} {x:DataW H×List MemPlace} (ht:prog.underlying t=some (.slice e)) (ce:prog.cellsOf e=2)
 (hel:∀(n:Nat) (cs:List Value) (y:DataW H×List MemPlace),DataW.trod enc prog W base (fun _=>true) held n e cs=some y->yU cs) (h:DataW.trod enc prog W base (fun _=>true) held fuel t [.slice a len cap]=some x):
 ∃qs,EL W a len cap qs/\((x.1= .nil/\qs=[])\/∃es rest,x.1= .slice es rest/\len<=es.length):=by
 rcases Deep.open_slice ht h with ⟨hcs,hx⟩|⟨ad,l,c,m,n,D,Pl,hcs,_,hl,hm,hmm,rfl,hcell⟩
 .simp at hcs
  obtain⟨rfl,rfl,rfl⟩:=hcs;subst hx;exact⟨[],⟨rfl,aN.nil _ _,fun _=>⟨rfl,rfl⟩,fun j p hj=>by simp at hj,aad _⟩,.inl ⟨rfl,rfl⟩⟩
 .simp at hcs
  obtain⟨rfl,rfl,rfl⟩:=hcs;have hmc:m=cap:=by simpa using hmm
  have each:∀i,i<m->∃q:Int×Int,W.cell? (ad.add (i*2))=some (.int .i64 q.1)/\W.cell? (ad.add (i*2+1))=some (.int .i64 q.2)/\jl q:=fun i hi=>by
   obtain⟨cs',h1,h2⟩:=hcell i hi;rw[ce] at h1;obtain⟨_,hlen,hc⟩:=World.cells?_some h1;obtain⟨u,v,rfl,hw⟩:=hel n cs' _ h2;have e0:=hc 0 (by omega);have e1:=hc 1 (by omega);rw[Deep.add_add] at e0 e1;exact⟨(u,v),by simpa using e0,by simpa using e1,hw⟩
  obtain⟨q,hq⟩:=Deep.choose_lt each;refine⟨(List.range len).map q,⟨by simp,fun j p hj=> ?_,fun h=>(by cases h),fun j p hj=> ?_,hl⟩,.inr ⟨_,_,rfl,by simp⟩⟩
  .have hi:j<len:=by
    have:=(aaf.1 hj).1;simpa using this
   simp[hi] at hj;subst hj;obtain⟨c0,c1,_⟩:=hq j (by omega);obtain⟨b,o,s⟩:=ad;have hsp:s=none:=by
    obtain⟨c00,_⟩:=hq 0 (by omega);simpa[Addr.add] using World.cell?_spot c00
   subst hsp;have ea:∀k,((⟨b,o,none⟩:Addr).add k)=⟨b,o+k,none⟩:=fun k=>by
    by_cases h0:k=0<;>simp[Addr.add,h0]
   rw[ea] at c0 c1;exact⟨b,o,rfl,c0,by rw[<-afE] at c1;exact c1⟩
  .have hi:j<len:=by
    have:=(aaf.1 hj).1;simpa using this
   simp[hi] at hj;subst hj;exact(hq j (by omega)).2.2
end
theorem Eh {H:Type} {enc:TypeId×Value->H} {W:World} {base:Nat} {v:Value} {d:DataW H} {p:List MemPlace} {ts:List TypeId} {ds:List (DataW H)} {j:Nat} (hval:Value.okWide prog W .any base 24 v)
 (h:DataW.Trod enc prog W 0 (fun _=>true) true 24 v d p) (hsz:(DataW.weightsEach prog ts ds).all (·<=reachBytes)=true) (hts:ts[j]? =some 24) (hds:ds[j]? =some d):
 ∃(n:Int) (a:Option Addr) (cap:Nat) (qs:List (Int×Int)),v= .agg #[.int .i64 n,.slice a qs.length cap]/\(-9223372036854775808<=n/\n<=9223372036854775807)/\EL W a qs.length cap qs/\qs.length*16<=140737488351232:=by
 obtain⟨cs,rfl,hcs⟩:=okWide_struct Tryz.underlying24 hval;rw[LQ] at hcs;obtain⟨fuel,hf⟩:=h;obtain⟨cl⟩:=cs
 match cl,hcs with
 |[u,v],_=>
  obtain⟨m,y0,y1,g0,g1,oY⟩:=RR Tryz.underlying24 rfl rfl rfl rfl LS hf;obtain⟨n,e0,hy0,w0⟩:=DataW.trod_int Tryz.underlying3 g0;simp at e0;subst e0;have YY:∃a len cap,v= .slice a len cap:=by
   rcases Deep.open_slice Tryz.underlying22 g1 with ⟨hc,_⟩|⟨ad,l,c,_,_,_,_,hc,_⟩
   .simp at hc;exact⟨_,_,_,hc⟩
   .simp at hc;exact⟨_,_,_,hc⟩
  obtain⟨a,len,cap,rfl⟩:=YY;obtain⟨qs,hq,hd⟩:=RM Tryz.underlying22 EB (fun n cs y hy=>Rc hy) g1;have DV:=hq.hlen;subst DV;refine⟨n,a,cap,qs,rfl,bounds_i64 w0,hq,?_⟩;rcases hd with ⟨_,rfl⟩|⟨es,rest,hd,hle⟩
  .simp
  .have hde:d= .agg [y0.1,.slice es rest]:=by
    rw[hd] at oY;exact oY
   subst hde;have hw:=acp.1 hsz _ (DataW.weights_mem_each hts hds ((es.length+rest.length)*prog.bytesOf 38) (by simp[DataW.weights,DataW.weightsEach,Tryz.underlying24,Tryz.underlying22]));rw[OX] at hw;have hw2:(es.length+rest.length)*16<=reachBytes:=of_decide_eq_true hw;simp only[reachBytes] at hw2;omega
end
end Go.Proofs.YtbhdibflpjhpaaaGreat
