import Derived.Test.YtdbjpbjocmcpkaaGreatDoorMj42
set_option maxHeartbeats 8000000
set_option maxRecDepth 100000
namespace Go.Proofs.YtdbjpbjocmcpkaaGreatDoor
section
open Go.Proofs.Tryz
open Go.RowKit Go.Sort Go.Maps
namespace Ku
def nQ (R:List (List Int)) (L:List Int) (k:Nat):Bool:=(opn R R.length (gI L 0,gI L k)).isSome
def aN (R:List (List Int)) (L:List Int):Nat->List Int
 |0=>[]
 |k+1=>if nQ R L k then aN R L k else aN R L k++[gI L k]
def bP (R:List (List Int)) (L:List Int):Nat->List Int
 |0=>[]
 |k+1=>if nQ R L k then bP R L k++[gI L k] else bP R L k
theorem kB (R:List (List Int)) (L:List Int) (k:Nat):(aN R L k).length+(bP R L k).length=k:=by
 induction k with
 |zero=>rfl
 |succ k ih=>
  unfold aN bP
  split<;>simp<;>omega
def cin (x:Int) (F:List Int):Nat->List (Int×Int)
 |0=>[]
 |j+1=>cin x F j++[(x,gI F j)]
def cout (N F:List Int):Nat->List (Int×Int)
 |0=>[]
 |i+1=>cout N F i++cin (gI N i) F F.length
theorem Bf (x:Int) (F:List Int) (j:Nat):(cin x F j).length=j:=by
 induction j with
 |zero=>rfl
 |succ j ih=>simp[cin,ih]
theorem mA (N F:List Int) (i:Nat):(cout N F i).length=i*F.length:=by
 induction i with
 |zero=>simp[cout]
 |succ i ih=>
  unfold cout;rw[aaZ,Bf,ih,adF]
def V6 (B:Nat) (cs:List Value) (R:List (List Int)) (L:List Int) (q:Nat) (w:World) (e:Ending) (w':World):Prop:=
 ((aN R L q).length≠3/\e= .returned (.tuple #[kS,.bool false])/\Below w.heap.size w w')\/
 ((aN R L q).length=3/\∃bv,ak w' w.heap.size bv (aN R L q++bP R L q)/\(∀(b:Nat) (k v pv r:Value),bv.ownBlock=some b->e= .returned (.tuple #[.agg #[k,v,pv],r])->w.heap.size<=b/\pv.ownBlock≠some b)/\oD B cs R 2 bv (cout (aN R L q) (bP R L q) 3) w e w')
theorem kX {R:List (List Int)} {L:List Int} {k:Nat} (h:nQ R L k=true):aN R L (k+1)=aN R L k/\bP R L (k+1)=bP R L k++[gI L k]:=by
 simp only[aN,bP];rw[if_pos h,if_pos h];exact⟨rfl,rfl⟩
theorem mh {R:List (List Int)} {L:List Int} {k:Nat} (h:nQ R L k=false):aN R L (k+1)=aN R L k++[gI L k]/\bP R L (k+1)=bP R L k:=by
 have h':¬(nQ R L k=true):=by rw[h];simp
 simp only[aN,bP];rw[if_neg h',if_neg h'];exact⟨rfl,rfl⟩
theorem uj {L:List Int} (h:∀x∈L,0<=x/\x<1048576) {k:Nat} (hk:k<L.length):0<=gI L k/\gI L k<1048576:=by
 obtain⟨x,hx⟩:∃x,L[k]? =some x:=⟨_,aaE hk⟩;rw[bR hx];exact h x (aaJ hx)
end Ku
theorem Rc (B:Nat) (ca:Option Addr) (J cc mb nb:Nat) (cs:List Value) (R:List (List Int)) (bo:Option Addr) (q bc:Nat) (L:List Int) (w:World)
 (hJ:R.length=J) (hBw:B<=w.heap.size) (hR:ay w B (.slice ca J cc) cs R) (hS:Ku.Small R) (nw:Ku.OM w mb nb (Ku.opn R R.length)) (hmb:¬cS cs mb) (hq:L.length=q) (OJ:q=6) (hL:aV w bo L) (hLs:∀x∈L,0<=x/\x<1048576)
 (hin:(Ku.aN R L q).length=3->∀p∈Ku.cout (Ku.aN R L q) (Ku.bP R L q) 3,dw (Ku.key p)) (hd:(Ku.aN R L q).length=3->∀(t t':Nat) (p p':Int×Int),t≠t'->(Ku.cout (Ku.aN R L q) (Ku.bP R L q) 3)[t]? =some p->(Ku.cout (Ku.aN R L q) (Ku.bP R L q) 3)[t']? =some p'->Ku.key p≠Ku.key p'):
 Calls prog 149 #[.agg #[.slice ca J cc,.map (some mb)],.slice bo q bc] w (Ku.V6 B cs R L q w):=by
 obtain⟨W1,hW1⟩:∃W1,W1=w.alloc (.cells #[.slice ca J cc,.map (some mb)] 248):=⟨_,rfl⟩;obtain⟨W,hW⟩:∃W,W=W1.alloc (.cells #[.int .i64 0,.slice none 0 0,.slice none 0 0] 82):=⟨_,rfl⟩;have hs1:W1.heap.size=w.heap.size+1:=by rw[hW1];simp
 have hB1:Below w.heap.size w W1:=by rw[hW1];exact(aaG _ _).alloc (aaF _) _
 have hB2:Below W1.heap.size W1 W:=by rw[hW];exact(aaG _ _).alloc (aaF _) _
 have hBW:Below w.heap.size w W:=hB1.trans (hB2.mono hB1.size);have g1:W.heap[w.heap.size]? =some (.cells #[.slice ca J cc,.map (some mb)] 248 (0,0)):=by
  rw[hB2.block _ (by omega),hW1];exact heap_alloc_new w _
 have g2:W.heap[w.heap.size+1]? =some (.cells #[.int .i64 0,.slice none 0 0,.slice none 0 0] 82 (0,0)):=by rw[hW,<-hs1];exact heap_alloc_new W1 _
 have Ys:w.heap.size+1<W.heap.size:=lt_of_block g2;have HW:Hid (W=(w.alloc (.cells #[.slice ca J cc,.map (some mb)] 248)).alloc (.cells #[.int .i64 0,.slice none 0 0,.slice none 0 0] 82)):=by rw[hW,hW1];exact ζ rfl
 have jE:Hid (∀b,cS cs b->b<w.heap.size):=fun b hb=>(hR.within (.inr hb)).2
 have dB:=ζ g1;have cA:=ζ g2;have cN:=ζ hBW;have HL:=ζ hL;have HQ:=ζ hq;obtain⟨N,hN⟩:∃N,Ku.aN R L q=N:=⟨_,rfl⟩;obtain⟨F,hF⟩:∃F,Ku.bP R L q=F:=⟨_,rfl⟩;have hNF:N.length+F.length=q:=by rw[<-hN,<-hF];exact Ku.kB R L q
 have HKU:Hid (∀(U:World) (xa:Option Addr) (xn xc:Nat) (pa:Option Addr) (pn pc:Nat),N.length=3->pn=(Ku.cout N F 3).length->Below W.heap.size W U->ah U pa (Ku.cout N F 3)->(∀x,pa=some x->W.heap.size<=x.block)->Calls prog 213 #[.agg #[.slice ca J cc,.map (some mb)],.int .i64 2,.slice xa xn xc,.slice pa pn pc] U (Ku.oD B cs R 2 (.slice xa xn xc) (Ku.cout N F 3) U)):=fun U xa xn xc pa pn pc h3 FC hU hpa hpb=>by
  have hbl:Below w.heap.size w U:=hBW.trans (hU.mono hBW.size);refine Cw B ca J cc mb nb cs R 2 xa xn xc pa pn pc (Ku.cout N F 3) U hJ (aa1 hBw hbl.size) (hR.later hbl) hS (nw.later hbl) hmb FC.symm ?_ hpa (fun x hx hi=> ?_) (by rw[<-hN,<-hF];exact hin (by rw[hN];exact h3)) (by rw[<-hN,<-hF];exact hd (by rw[hN];exact h3))
  .rw[FC,Ku.mA]
   omega
  .have h1:=hpb x hx
   have h2:=jE.out _ hi;omega
 have fL:Hid (∀(U:World) (k:Nat),k<q->Below W.heap.size W U->(Instr.lookup 246 (.map (some mb)) (.agg #[.int .i64 (Ku.gI L 0),.int .i64 (Ku.gI L k)]) true).run prog U= .ok (.tuple #[.int .i64 (((Ku.opn R R.length (Ku.gI L 0,Ku.gI L k)).getD 0:Nat):Int),.bool (Ku.nQ R L k)]) U):=fun U k hk hU=>by
  have a:=Ku.uj hLs (k:=0) (by omega);have b:=Ku.uj hLs (k:=k) (by omega);exact(nw.later (hBW.trans (hU.mono hBW.size))).Uo (p:=(Ku.gI L 0,Ku.gI L k)) (by unfold dw;dsimp only;omega)
 have HN:=ζ hN;have HF:=ζ hF;have HQ6:=ζ OJ;have xY:q<=6:=by omega
 have hqp:0<q:=by omega
 clear hW hW1 hs1 hB1 hB2 hBW g1 g2 hR hS nw hmb hq hL hin hd hJ hLs hN hF OJ;go_enter func149,ntmps149;go_wp2_with fail;rw[<-HW.out];go_loopw [6,7,19] (fun nv fv cv wr=>∃(i:Nat),i<=q/\cv= .int .i64 (i:Int)/\ak wr W.heap.size nv (Ku.aN R L i)/\ak wr W.heap.size fv (Ku.bP R L i)/\(∀b,nv.ownBlock=some b->fv.ownBlock≠some b)/\Below W.heap.size W wr) (fun _ _ cv _=>q-(intOf cv).toNat)
 case atStart=>exact⟨0,aaR _,rfl,ak.nil _ _,ak.nil _ _,fun b hb=>(by cases hb),aaG _ _⟩
 case round=>
  obtain⟨i,hi,rfl,hno,hfo,hap,hb⟩:=hrel;obtain⟨U,rfl⟩:∃U,U=wr:=⟨wr,rfl⟩;have cB:=ζ hno;have HFO:=ζ hfo;have PX:=ζ hap;have HB:=ζ hb;have hwi:IntKind.i64.wrap ((i:Int)+1)=(i:Int)+1:=by rw[aaK];omega
  obtain⟨na,nc,hne,hni,-⟩:=hno.form;obtain⟨fa,fc,qH,oN,-⟩:=hfo.form;have hnl:=Ku.kB R L i;obtain⟨kn,hkn⟩:∃kn,(Ku.aN R L i).length=kn:=⟨_,rfl⟩;obtain⟨kf,Vi⟩:∃kf,(Ku.bP R L i).length=kf:=⟨_,rfl⟩;rw[hkn] at hne hnl;rw[Vi] at qH hnl;subst hne;subst qH;have HKN:=ζ hkn;have HKF:=ζ Vi;have HNI:=ζ hni;have wS:=ζ oN;have OE:=hb.size;clear hkn Vi hap hni oN;by_cases hlt:i<q
  .have aP:(i:Int)<(q:Int):=by omega
   have nS:(0:Int)<=(i:Int):=by omega
   have BO:(0:Int)<(q:Int):=by omega
   obtain⟨x,hx⟩:∃x,L[i]? =some x:=⟨_,aaE (by rw[HQ.out];exact hlt)⟩;obtain⟨x0,hx0⟩:∃x,L[0]? =some x:=⟨_,aaE (by rw[HQ.out];omega)⟩;have dA:Below w.heap.size w U:=cN.out.trans (hb.mono cN.out.size);obtain⟨b,o,rfl,e0⟩:=(HL.out.later dA) i x hx;obtain⟨_,_,ee,e1⟩:=(HL.out.later dA) 0 x0 hx0;cases ee;rw[abG] at e1;obtain⟨-,c1,-⟩:=af ((hb.block _ (by omega)).trans dB.out);have JQ:=ζ (Ku.bR hx);obtain⟨jn,hjn⟩:∃jn,Ku.nQ R L i=jn:=⟨_,rfl⟩;obtain⟨ci,uP⟩:∃ci,(((Ku.opn R R.length (Ku.gI L 0,Ku.gI L i)).getD 0:Nat):Int)=ci:=⟨_,rfl⟩;have hlk:∀D:LW U,(Instr.lookup 246 (.map (some mb)) (.agg #[.int .i64 x0,.int .i64 x]) true).run prog D.val= .ok (.tuple #[.int .i64 ci,.bool jn]) D.val:=fun D=>by
    have:=fL.out D.val i hlt (hb.trans (D.h.mono OE));rw[uP,hjn,Ku.bR hx,Ku.bR hx0] at this;exact this
   have d1:∀D:LW U,D.val.cell? ⟨b,o,none⟩=some (.int .i64 x0):=fun D=>(D.h.cell (p:=⟨b,o,none⟩) (block_lt_of_cell e1)).trans e1
   have d2:∀D:LW U,D.val.cell? ⟨w.heap.size,1,none⟩=some (.map (some mb)):=fun D=>(D.h.cell (p:=⟨w.heap.size,1,none⟩) (block_lt_of_cell c1)).trans c1
   have hne:=LW.any U;have WW:=ζ hjn;clear hno hfo hb hx hx0 dA uP hjn e1;go_wp2_with fail;refine aH (by kernel_rfl) (by kernel_rfl) ?_
   repeat (go_big_quiet_step (fail))
   refine wpQuiet_nil ?_;rintro _ ⟨E,rfl⟩;have b9:=ζ (HB.out.trans (E.h.mono OE));have nU:=ζ (cB.out.later E.h);have TF:=ζ (HFO.out.later E.h);obtain⟨V,hV⟩:∃V,V=E.val:=⟨_,rfl⟩;rw[<-hV] at b9 nU TF ⊢;have OD:W.heap.size<=V.heap.size:=b9.out.size;clear d1 d2 hlk hne hV c1 e0;cases jn with
   |true=>
    obtain⟨hn1,sH⟩:=Ku.kX WW.out;rw[JQ.out] at sH;have nM:=ζ hn1;have PS:=ζ sH;have eB:(Ku.bP R L i).length<=17592186044000:=by rw[HKF.out];omega
    clear hn1 sH;go_wp2_with (at_builtin;refine bu rfl _ _ rfl _ W.heap.size _ _ x TF.out OD eB rfl rfl ?_;refine aaI ?_);refine ζ ?_;intro v' w3 hr3 hg3 gU hb3;have jl:=ζ hr3;have aK:=ζ (b9.out.trans hb3);have tI:Hid (ak w3 W.heap.size (.slice na kn nc) (Ku.aN R L i)):=nU.out.same fun g hg hl=>(hg3.block g (by simp;omega) (fun e=>PX.out g hg e.symm)).trans (heap_alloc_old V _ hl)
    have HA3:Hid (∀b,(Value.slice na kn nc).ownBlock=some b->v'.ownBlock≠some b):=fun b hb e=>by
     rcases gU with h|h
     .exact PX.out b hb (h▸e)
     .rw[h] at e
      cases e;have:=(aaO nU.out _ hb).2;omega
    clear hr3 hg3 gU hb3;go_wp2;go_roundw
    case rel=>exact⟨i+1,by omega,by go_num,by rw[nM.out];exact tI.out,by rw[PS.out];exact jl.out,HA3.out,aK.out⟩
    case measure=>simp[intOf];omega
   |false=>
    obtain⟨hn1,sH⟩:=Ku.mh WW.out;rw[JQ.out] at hn1;have nM:=ζ hn1;have PS:=ζ sH;have eB:(Ku.aN R L i).length<=17592186044000:=by rw[HKN.out];omega
    clear hn1 sH;go_wp2_with (at_builtin;refine bu rfl _ _ rfl _ W.heap.size _ _ x nU.out OD eB rfl rfl ?_;refine aaI ?_);refine ζ ?_;intro v' w3 hr3 hg3 gU hb3;have jl:=ζ hr3;have aK:=ζ (b9.out.trans hb3);have tI:Hid (ak w3 W.heap.size (.slice fa kf fc) (Ku.bP R L i)):=TF.out.same fun g hg hl=>(hg3.block g (by simp;omega) (fun e=>PX.out g e.symm hg)).trans (heap_alloc_old V _ hl)
    have HA3:Hid (∀b,v'.ownBlock=some b->(Value.slice fa kf fc).ownBlock≠some b):=fun b hb e=>by
     rcases gU with h|h
     .exact PX.out b (h▸hb) e
     .rw[h] at hb
      cases hb;have:=(aaO TF.out _ e).2;omega
    clear hr3 hg3 gU hb3;go_wp2;go_roundw
    case rel=>exact⟨i+1,by omega,by go_num,by rw[nM.out];exact jl.out,by rw[PS.out];exact tI.out,HA3.out,aK.out⟩
    case measure=>simp[intOf];omega
  .have hdn:¬((i:Int)<(q:Int)):=by omega
   obtain rfl:i=q:=by omega
   have VG:N.length=kn:=by rw[<-HN.out];exact HKN.out
   have VK:F.length=kf:=by rw[<-HF.out];exact HKF.out
   rw[HN.out] at cB;rw[HF.out] at HFO;rw[HN.out] at HNI;rw[HF.out] at wS;have WJ:=ζ VG;have yU:=ζ VK;clear hno hfo VG VK;by_cases h3:kn=3
   .have t3:((kn:Int) != 3)=false:=by simp[h3]
    have hk3:kn<=3:=by omega
    have HK3:=ζ h3;clear h3;go_wp2_with fail;go_loopw [12,50] (fun pv cv wr=>∃(i:Nat),i<=kn/\cv= .int .i64 (i:Int)/\l6 wr U.heap.size pv (Ku.cout N F i)/\Below U.heap.size U wr) (fun _ cv _=>kn-(intOf cv).toNat)
    case atStart=>exact⟨0,aaR _,rfl,l6.nil _ _,aaG _ _⟩
    case round=>
     rename_i iq _ _ _ _
     obtain⟨p,hp,rfl,hown,FL⟩:=hrel;obtain⟨V,rfl⟩:∃V,V=wr:=⟨wr,rfl⟩;have HO:=ζ hown;have JV:=ζ FL;have OD:=FL.size;have hwp:IntKind.i64.wrap ((p:Int)+1)=(p:Int)+1:=by rw[aaK];omega
     obtain⟨pa,pc,hpe,hpat,hpb⟩:=hown.form;by_cases hlt:p<kn
     .have aP:(p:Int)<(kn:Int):=by omega
      have Su:(0:Int)<=(p:Int):=by omega
      obtain⟨x,hx⟩:∃x,N[p]? =some x:=⟨_,aaE (by rw[WJ.out];exact hlt)⟩;obtain⟨b,o,rfl,e0⟩:=(HNI.out.later FL) p x hx;have JQ:=ζ (Ku.bR hx);clear hown hpe hpat hpb FL hx;go_wp2_with fail;go_loopw [12,56] (fun pv cv wr=>∃(j:Nat),j<=kf/\cv= .int .i64 (j:Int)/\l6 wr U.heap.size pv (Ku.cout N F p++Ku.cin (Ku.gI N p) F j)/\Below U.heap.size U wr) (fun _ cv _=>kf-(intOf cv).toNat)
      case atStart=>exact⟨0,aaR _,rfl,by rw[show Ku.cin (Ku.gI N p) F 0=[] from rfl,abP];exact HO.out,JV.out⟩
      case round=>
       obtain⟨j,hj,rfl,hown,hb2⟩:=hrel;obtain⟨X,rfl⟩:∃X,X=wr:=⟨wr,rfl⟩;have mD:=ζ hown;have aA:=ζ hb2;have hs2:=hb2.size;have X7:IntKind.i64.wrap ((j:Int)+1)=(j:Int)+1:=by rw[aaK];omega
       by_cases hjl:j<kf
       .have ae0:(j:Int)<(kf:Int):=by omega
        have hj0:(0:Int)<=(j:Int):=by omega
        obtain⟨y,hy⟩:∃y,F[j]? =some y:=⟨_,aaE (by rw[yU.out];exact hjl)⟩;obtain⟨b',o',rfl,e1⟩:=(wS.out.later hb2) j y hy;have iZ:Hid (Ku.cout N F p++Ku.cin (Ku.gI N p) F (j+1)=Ku.cout N F p++Ku.cin (Ku.gI N p) F j++[(x,y)]):=by
         show _=_;rw[abb]
         congr 1
         show Ku.cin (Ku.gI N p) F j++[(Ku.gI N p,Ku.gI F j)]=_;rw[JQ.out,Ku.bR hy]
        have eB:(Ku.cout N F p++Ku.cin (Ku.gI N p) F j).length<=8796093022000:=by
         rw[aaZ,Ku.Bf,Ku.mA,yU.out];have h2:p*kf<=6*6:=adu (by omega) (by omega);omega
        clear hown hb2 hy;go_wp2_with (at_builtin;refine uV rfl _ _ rfl _ U.heap.size _ _ x y mD.out hs2 eB rfl rfl ?_;refine aaI ?_);refine ζ ?_;intro v' w3 hrow3 hb3;have jl:=ζ hrow3;have aK:=ζ (aA.out.trans hb3);clear hrow3 hb3;go_wp2;go_roundw
        case rel=>exact⟨j+1,by omega,by go_num,by rw[iZ.out];first|exact jl.out|(rw[abb];exact jl.out),aK.out⟩
        case measure=>simp[intOf];omega
       .have hdj:¬((j:Int)<(kf:Int)):=by omega
        obtain rfl:j=kf:=by omega
        have HN9:Hid (Ku.cout N F (p+1)=Ku.cout N F p++Ku.cin (Ku.gI N p) F j):=by
         show _=_;rw[show Ku.cout N F (p+1)=Ku.cout N F p++Ku.cin (Ku.gI N p) F F.length from rfl,yU.out]
        clear hown hb2;go_wp2;go_roundw
        case rel=>exact⟨p+1,by omega,by go_num,by rw[HN9.out];exact mD.out,aA.out⟩
        case measure=>simp[intOf];omega
     .have hdp:¬((p:Int)<(kn:Int)):=by omega
      obtain rfl:p=kn:=by omega
      have hpk:=HK3.out;rw[hpk] at hpe hpat;have hbW:Below W.heap.size W V:=hb.trans (FL.mono OE);have iD:=ζ hbW;have VG:=WJ.out;have VK:=yU.out;have HPB:Hid (∀x,pa=some x->W.heap.size<=x.block):=fun x hx=>by have:=(hpb x hx).1;omega
      have Xf:Hid (∀(ty:TypeId) (Y:World),Below V.heap.size V Y->Y.heap[V.heap.size]? =some (.cells #[.slice na p nc,.slice fa kf fc] ty (0,0))->Calls prog 91 #[.slice (some ⟨V.heap.size,0,none⟩) 2 2] Y fun e u=>∃xa xn xc,e= .returned (.slice xa xn xc)/\ak u V.heap.size (.slice xa xn xc) (N++F)/\Below V.heap.size V u/\ah u pa (Ku.cout N F 3)/\Below W.heap.size W u):=fun ty Y hY hbl=>by
       obtain⟨k0,k1,-⟩:=af hbl;obtain⟨a1,d1,g1,g2,-⟩:=ak.iU (cB.out.later (FL.trans (hY.mono OD)));obtain⟨a2,d2,g3,g4,-⟩:=ak.iU (HFO.out.later (FL.trans (hY.mono OD)));rw[VG] at g1 g2;rw[VK] at g3 g4;cases g1;cases g3;refine(Ia V.heap.size na fa p kf nc fc N F Y k0 k1 g2 g4 (by omega) (by omega)).mono ?_;rintro e u ⟨v,rfl,ho,hbu⟩;have hVu:Below V.heap.size V u:=hY.trans (hbu.mono hY.size);obtain⟨xa,xc,cG,-,-⟩:=ho.form;subst cG;exact⟨_,_,_,rfl,ho.lower hY.size,hVu,hpat.later hVu,hbW.trans (hVu.mono hbW.size)⟩
      obtain⟨pn,FC⟩:∃pn,(Ku.cout N F 3).length=pn:=⟨_,rfl⟩;rw[FC] at hpe;subst hpe;have Ng:Hid (pn=(Ku.cout N F 3).length):=FC.symm;have WL:Hid (N.length=3):=WJ.out.trans HK3.out;obtain⟨c0,c1,-⟩:=af ((hbW.block _ (by omega)).trans dB.out);have FZ:Hid (∀Y:World,Below V.heap.size V Y->Y.cell? ⟨w.heap.size,0,none⟩=some (.slice ca J cc)/\Y.cell? ⟨w.heap.size,1,none⟩=some (.map (some mb))):=fun Y hY=>by
       obtain⟨c0,c1,-⟩:=af ((hY.block _ (by omega)).trans ((hbW.block _ (by omega)).trans dB.out));exact⟨c0,c1⟩
      have FY:Hid (∀(u e u2:_),Below V.heap.size V u->∀bv,Ku.oD B cs R 2 bv (Ku.cout N F 3) u e u2->u2.heap[w.heap.size]? =some (.cells #[.slice ca J cc,.map (some mb)] 248 (0,0))/\u2.heap[w.heap.size+1]? =some (.cells #[.int .i64 0,.slice none 0 0,.slice none 0 0] 82 (0,0))):=fun u e u2 hu bv hk=>by
       have:=hu.size;exact⟨(hk.2.block _ (by omega) (fun h=>by have:=jE.out _ h;omega)).trans ((hu.block _ (by omega)).trans ((hbW.block _ (by omega)).trans dB.out)),(hk.2.block _ (by omega) (fun h=>by have:=jE.out _ h;omega)).trans ((hu.block _ (by omega)).trans ((hbW.block _ (by omega)).trans cA.out))⟩
      have JI:Hid (∀(u2:World) (x y z:Value),u2.heap[w.heap.size]? =some (.cells #[.slice ca J cc,.map (some mb)] 248 (0,0))->(((u2.setCell ⟨w.heap.size+1,0,none⟩ x).setCell ⟨w.heap.size+1,1,none⟩ y).setCell ⟨w.heap.size+1,2,none⟩ z).cell? ⟨w.heap.size,0,none⟩=some (.slice ca J cc)/\(((u2.setCell ⟨w.heap.size+1,0,none⟩ x).setCell ⟨w.heap.size+1,1,none⟩ y).setCell ⟨w.heap.size+1,2,none⟩ z).cell? ⟨w.heap.size,1,none⟩=some (.map (some mb))):=fun u2 x y z h=>by
       have hne:w.heap.size≠w.heap.size+1:=by omega
       have e:(((u2.setCell ⟨w.heap.size+1,0,none⟩ x).setCell ⟨w.heap.size+1,1,none⟩ y).setCell ⟨w.heap.size+1,2,none⟩ z).heap[w.heap.size]? =some (.cells #[.slice ca J cc,.map (some mb)] 248 (0,0)):=by
        rw[heap_setCell_other _ ⟨w.heap.size+1,2,none⟩ _ _ hne,heap_setCell_other _ ⟨w.heap.size+1,1,none⟩ _ _ hne,heap_setCell_other _ ⟨w.heap.size+1,0,none⟩ _ _ hne];exact h
       obtain⟨c0,c1,-⟩:=af e;exact⟨c0,c1⟩
      have Ws:=FZ.out V (aaG _ _);have iA:=FZ.out V.drew (aaG _ _).drew;clear hown hpat hpb FL hb hbW FC VG VK hpk c0 c1;go_wp2_with fail
      go_region_held3 (fun Y=>Y.cell? ⟨w.heap.size,0,none⟩=some (.slice ca J cc)/\Y.cell? ⟨w.heap.size,1,none⟩=some (.map (some mb)))
       (first|exact Ws|exact iA|exact hS1|exact D8|exact JI.out _ _ _ _ m1|exact FZ.out _ ((aaG _ _).alloc (aaF _) _)|exact FZ.out _ ((aaG _ _).alloc (aaF _) _).drew|exact FZ.out _ ((aaG _ _).drew.alloc (aaF _) _))
       (first
         |(go_at_call 91;(first|refine(Xf.out _ _ ((aaG _ _).alloc (aaF _) _) (heap_alloc_new V _)).mono ?_|refine(Xf.out _ _ ((aaG _ _).drew.alloc (aaF _) _) (heap_alloc_new V.drew _)).mono ?_|refine(Xf.out _ _ ((aaG _ _).alloc (aaF _) _).drew (heap_alloc_new V _)).mono ?_);rintro e u1 ⟨xa,xn,xc,rfl,ho1,hb1,hE1,hW1⟩;have hS1:=FZ.out u1 hb1)
         |(go_at_call 213;refine(HKU.out u1 xa xn xc pa pn pc WL.out Ng.out hW1 hE1 HPB.out).mono ?_;intro e u2 hkp;obtain⟨m1,m2⟩:=FY.out u1 e u2 hb1 _ hkp;have D8:=(fun (h:u2.heap[w.heap.size]? =some (.cells #[.slice ca J cc,.map (some mb)] 248 (0,0)))=>And.intro (af h).1 (af h).2.1) m1;obtain⟨z0,z1,z2,zf⟩:=aQ m2;have hf0:=zf 0;have sH:=zf 1;have hf2:=zf 2;obtain⟨y1,s1,s2,s3,q1,q2,q3,r,rfl⟩:=hkp.shape))
      have hsu:=hb1.size;have F5:Hid (∀x y z:Value,ak (((u2.setCell ⟨w.heap.size+1,0,none⟩ x).setCell ⟨w.heap.size+1,1,none⟩ y).setCell ⟨w.heap.size+1,2,none⟩ z) w.heap.size (.slice xa xn xc) (N++F)):=fun x y z=>(ho1.lower (by omega)).same fun g hg hl=>by
       have h1:=(aaO ho1 _ hg).1;have hne:g≠w.heap.size+1:=by omega
       rw[heap_setCell_other _ ⟨w.heap.size+1,2,none⟩ g _ hne,heap_setCell_other _ ⟨w.heap.size+1,1,none⟩ g _ hne,heap_setCell_other _ ⟨w.heap.size+1,0,none⟩ g _ hne];exact hkp.2.block g hl (fun h=>by have:=jE.out _ h;omega)
      have EY:=ζ (fun x y z:Value=>hkp.far (w:=w) (V:=((u2.setCell ⟨w.heap.size+1,0,none⟩ x).setCell ⟨w.heap.size+1,1,none⟩ y).setCell ⟨w.heap.size+1,2,none⟩ z) (cN.out.trans (hW1.mono cN.out.size)) (c:=w.heap.size+1) ⟨by omega,by omega⟩ jE.out (fun b hb=>by rw[heap_setCell_other _ ⟨w.heap.size+1,2,none⟩ b _ hb,heap_setCell_other _ ⟨w.heap.size+1,1,none⟩ b _ hb,heap_setCell_other _ ⟨w.heap.size+1,0,none⟩ b _ hb]) (by simp) rfl rfl rfl);have ahp:Hid (∀(b:Nat) (k v pv r':Value),(Value.slice xa xn xc).ownBlock=some b->Ending.returned (.tuple #[.agg #[.int .i64 y1,.slice s1 s2 s3,.slice q1 q2 q3],.bool r])= .returned (.tuple #[.agg #[k,v,pv],r'])->w.heap.size<=b/\pv.ownBlock≠some b):=fun b k v pv r' hb he=>by
       have hlt:=aaO ho1 _ hb;refine⟨by omega,fun e=> ?_⟩;rcases hkp.1 with ⟨_,h⟩|⟨_,pv2,vs2,h,_,h3,_⟩
       .rw[h] at he
        unfold Ku.kS at he;cases he;cases e
       .rw[h] at he
        cases he;have:=h3 b e;omega
      have oZ:Hid ((Ku.aN R L i).length=3):=by rw[HN.out,WJ.out];exact HK3
      clear hkp ho1 hb1 hE1 hW1 m1 m2 zf hS1 D8 Ws iA;go_wp2;refine bodyPost_ret (fD rfl rfl _ _ (w.heap.size+1) _ _ _ _ rfl rfl (az z0 z1 z2 _ _ _).1 (az z0 z1 z2 _ _ _).2.1 (az z0 z1 z2 _ _ _).2.2) rfl ?_;exact .inr ⟨oZ.out,_,by rw[HN.out,HF.out];exact F5.out _ _ _,ahp.out,by rw[HN.out,HF.out];exact EY.out _ _ _⟩
   .have t3:((kn:Int) != 3)=true:=by simp;omega
    have agy:Hid ((Ku.aN R L i).length≠3):=by rw[HN.out,WJ.out];exact ζ h3
    obtain⟨z0,z1,z2,zf⟩:=aQ ((hb.block _ (by omega)).trans cA.out);have hf0:=zf 0;have sH:=zf 1;have hf2:=zf 2;have JU:Hid (∀x y z:Value,Below w.heap.size w (((U.setCell ⟨w.heap.size+1,0,none⟩ x).setCell ⟨w.heap.size+1,1,none⟩ y).setCell ⟨w.heap.size+1,2,none⟩ z)):=fun x y z=>bX (cN.out.trans (hb.mono cN.out.size)) (by omega) x y z
    clear zf hb h3;go_wp2;refine bodyPost_ret (fD rfl rfl _ _ (w.heap.size+1) _ _ _ _ rfl rfl (az z0 z1 z2 _ _ _).1 (az z0 z1 z2 _ _ _).2.1 (az z0 z1 z2 _ _ _).2.2) rfl ?_;exact .inl ⟨agy.out,rfl,JU.out _ _ _⟩
end
section
open Go.RowKit Go.Sort Go.Maps
namespace Ku
theorem XA {S:Gs} {l:List Nat} {v:Nat} (h:v∈vs S l):∃x∈l,v=S.fr x\/v=S.to x:=by
 cases l with
 |nil=>simp[vs] at h
 |cons a l=>
  simp only[vs,aa4,abO] at h;rcases h with rfl|⟨x,hx,rfl⟩
  .exact⟨a,adn,.inl rfl⟩
  .exact⟨x,aa4.2 hx,.inr rfl⟩
theorem Cn.nd0 {S:Gs} {l:List Nat} (c:Cn S l):l.Nodup:=by
 rcases c.kind with o|o
 .exact o.nodup
 .exact o.1.nd
theorem Kl {n:Int} {es:List (Int×Int)} (hv:Si.Val n es):Small (rows es hv es.length):=by
 have hf:=hv.few;have hh:=hv.hi;refine⟨by rw[l9];have:=sW (es:=es) (hv:=hv) es.length;omega,fun l hl=> ?_⟩;obtain⟨t,ht⟩:=abg hl;obtain⟨c,hc,rfl⟩:=rZ ht;have oO:=yE (aaF _) (aaJ hc);have h1:=fU oO.nd0 oO.lt;have h3:(gs es hv).M=2*es.length:=rfl;rw[h3] at h1;have hne:=oO.ne;have h2:=ack.2 hne;rw[bS,bE hne];refine⟨by omega,by omega,fun x hx=> ?_⟩;obtain⟨v,wh,rfl⟩:=abO.1 hx;obtain⟨y,hy,e⟩:=XA wh;have qB:y<2*es.length:=oO.lt y hy;have key:∀z,z<2*es.length->((Cs.fr es z:Nat):Int)<n:=fun z hz=>by
  obtain⟨m,rfl⟩:∃m:Nat,n=(m:Int):=⟨n.toNat,by have:=hv.lo;omega⟩;have:=(Cs.eU hv hz).1;omega
 rcases e with rfl|rfl
 .have:=key y qB
  show(0:Int)<=((Cs.fr es y:Nat):Int)/\((Cs.fr es y:Nat):Int)<1048576;omega
 .have:=key (Cs.twin y) ((gs es hv).tl y qB)
  show(0:Int)<=((Cs.fr es (Cs.twin y):Nat):Int)/\((Cs.fr es (Cs.twin y):Nat):Int)<1048576;omega
theorem pL {es:List (Int×Int)} {v:Nat}:∀{k:Nat},v∈aY es k↔v<k/\dg es v≠0/\dg es v≠2
 |0=>by simp[aY]
 |k+1=>by
  by_cases h:dg es k≠0/\dg es k≠2
  .rw[sZ h,abo,pL (k:=k),abe]
   constructor
   .rintro(⟨h1,h2⟩|rfl)
    .exact⟨by omega,h2⟩
    .exact⟨by omega,h⟩
   .rintro⟨h1,h2⟩
    by_cases e:v=k
    .exact .inr e
    .exact .inl ⟨by omega,h2⟩
  .rw[Cj h,pL (k:=k)]
   constructor
   .rintro⟨h1,h2⟩
    exact⟨by omega,h2⟩
   .rintro⟨h1,h2⟩
    refine⟨?_,h2⟩;rcases Nat.lt_succ_iff_lt_or_eq.1 h1 with h3|rfl
    .exact h3
    .exact absurd h2 h
theorem Ci (es:List (Int×Int)):∀k,(aY es k).Pairwise (· <·)
 |0=>List.Pairwise.nil
 |k+1=>by
  by_cases h:dg es k≠0/\dg es k≠2
  .rw[sZ h,adb]
   exact⟨Ci es k,by simp,fun a ha b hb=>by rw[abe.1 hb];exact(pL.1 ha).1⟩
  .rw[Cj h]
   exact Ci es k
theorem V5 {l:List Nat} (h:l.Pairwise (· <·)):(ZL l).Pairwise (· <·):=by
 unfold ZL;rw[ac5];exact h.imp fun h=>by omega
theorem zU {L:List Int} (h:L.Pairwise (· <·)) {i j:Nat} (hij:i<j) (hj:j<L.length):gI L i<gI L j:=by
 have:=abr.1 h i j (by omega) hj hij;rw[bR (aaE (by omega:i<L.length)),bR (aaE hj)];exact this
theorem XX {a b:Int} (h:a<b):key (a,b)=(a,b):=by
 unfold key;rw[if_neg (by dsimp only;omega)]
theorem I3 {a b c d:Int} (h1:¬(a=c/\b=d)) (h2:¬(a=d/\b=c)):key (a,b)≠key (c,d):=by
 unfold key;dsimp only;intro h
 split at h<;>split at h<;>(simp only[Prod.mk.injEq] at h;omega)
theorem Qp {p:Int×Int} (h1:0<=p.1/\p.1<1048576) (h2:0<=p.2/\p.2<1048576):dw (key p):=by
 unfold key dw
 split<;>(first|omega|(dsimp only;omega))
def qX (ps:List (Int×Int)):Prop:=∀(t t':Nat) (p p':Int×Int),t≠t'->ps[t]? =some p->ps[t']? =some p'->key p≠key p'
theorem AY {ps:List (Int×Int)} (h:ps.Pairwise fun p q=>key p≠key q):qX ps:=fun t t' p p' hne hp hp'=>by
 obtain⟨h1,e1⟩:=aaH.1 hp;obtain⟨h2,e2⟩:=aaH.1 hp';have H:=abr.1 h;rcases Nat.lt_or_gt_of_ne hne with hlt|hlt
 .have:=H t t' h1 h2 hlt
  rw[e1,e2] at this;exact this
 .have:=H t' t h2 h1 hlt
  rw[e1,e2] at this;exact fun e=>this e.symm
theorem wC {L:List Int} (h:L.length=5):∃a b c d e,L=[a,b,c,d,e]:=by
 match L,h with
 |[a,b,c,d,e],_=>exact⟨a,b,c,d,e,rfl⟩
theorem nY {L:List Int} (h:L.length=3):∃a b c,L=[a,b,c]:=by
 match L,h with
 |[a,b,c],_=>exact⟨a,b,c,rfl⟩
theorem Uc (a b c d e:Int):dN [a,b,c,d,e] 5=[(a,b),(a,c),(a,d),(a,e),(b,c),(b,d),(b,e),(c,d),(c,e),(d,e)]:=rfl
theorem VW (a b c x y z:Int):cout [a,b,c] [x,y,z] 3=[(a,x),(a,y),(a,z),(b,x),(b,y),(b,z),(c,x),(c,y),(c,z)]:=rfl
theorem KD {L:List Int} (h5:L.length=5) (hu:L.Pairwise (· <·)) (hs:∀x∈L,0<=x/\x<1048576):(∀p∈dN L 5,dw (key p))/\qX (dN L 5):=by
 obtain⟨a,b,c,d,e,rfl⟩:=wC h5;rw[Uc];simp only[aa4,abN,or_false,forall_eq_or_imp,forall_eq] at hs;simp only[abD,aa4,abN,or_false,forall_eq_or_imp,forall_eq] at hu;obtain⟨s1,s2,s3,s4,s5⟩:=hs;obtain⟨⟨u1,u2,u3,u4⟩,⟨u5,u6,u7⟩,⟨u8,u9⟩,u10,-⟩:=hu;refine⟨?_,AY ?_⟩
 .simp only[aa4,abN,or_false,forall_eq_or_imp,forall_eq]
  refine⟨?_,?_,?_,?_,?_,?_,?_,?_,?_,?_⟩<;>exact Qp (by assumption) (by assumption)
 .simp only[abD,aa4,abN,or_false,forall_eq_or_imp,forall_eq,false_implies,implies_true,List.Pairwise.nil,and_true]
  refine⟨⟨?_,?_,?_,?_,?_,?_,?_,?_,?_⟩,⟨?_,?_,?_,?_,?_,?_,?_,?_⟩,⟨?_,?_,?_,?_,?_,?_,?_⟩,⟨?_,?_,?_,?_,?_,?_⟩,⟨?_,?_,?_,?_,?_⟩,⟨?_,?_,?_,?_⟩,⟨?_,?_,?_⟩,⟨?_,?_⟩,?_⟩<;>exact I3 (by omega) (by omega)
theorem kD {R:List (List Int)} {L:List Int} {x:Int}:∀{k:Nat},x∈aN R L k->∃i,i<k/\x=gI L i/\nQ R L i=false
 |0,h=>by simp[aN] at h
 |k+1,h=>by
  cases hj:nQ R L k with
  |true=>
   rw[(kX hj).1] at h;obtain⟨i,hi,e⟩:=kD h;exact⟨i,by omega,e⟩
  |false=>
   rw[(mh hj).1,abo,abe] at h;rcases h with h|h
   .obtain⟨i,hi,e⟩:=kD h
    exact⟨i,by omega,e⟩
   .exact⟨k,by omega,h,hj⟩
theorem mN {R:List (List Int)} {L:List Int} {x:Int}:∀{k:Nat},x∈bP R L k->∃i,i<k/\x=gI L i/\nQ R L i=true
 |0,h=>by simp[bP] at h
 |k+1,h=>by
  cases hj:nQ R L k with
  |false=>
   rw[(mh hj).2] at h;obtain⟨i,hi,e⟩:=mN h;exact⟨i,by omega,e⟩
  |true=>
   rw[(kX hj).2,abo,abe] at h;rcases h with h|h
   .obtain⟨i,hi,e⟩:=mN h
    exact⟨i,by omega,e⟩
   .exact⟨k,by omega,h,hj⟩
theorem tZ {R:List (List Int)} {L:List Int} (hu:L.Pairwise (· <·)):∀{k:Nat},k<=L.length->(aN R L k).Pairwise (· <·)
 |0,_=>List.Pairwise.nil
 |k+1,hk=>by
  cases hj:nQ R L k with
  |true=>
   rw[(kX hj).1];exact tZ hu (by omega)
  |false=>
   rw[(mh hj).1,adb];refine⟨tZ hu (by omega),by simp,fun a ha b hb=> ?_⟩;obtain⟨i,hi,rfl,-⟩:=kD ha;rw[abe.1 hb];exact zU hu hi (by omega)
theorem yu {R:List (List Int)} {L:List Int} (hu:L.Pairwise (· <·)):∀{k:Nat},k<=L.length->(bP R L k).Pairwise (· <·)
 |0,_=>List.Pairwise.nil
 |k+1,hk=>by
  cases hj:nQ R L k with
  |false=>
   rw[(mh hj).2];exact yu hu (by omega)
  |true=>
   rw[(kX hj).2,adb];refine⟨yu hu (by omega),by simp,fun a ha b hb=> ?_⟩;obtain⟨i,hi,rfl,-⟩:=mN ha;rw[abe.1 hb];exact zU hu hi (by omega)
theorem zI {R:List (List Int)} {L:List Int} (hu:L.Pairwise (· <·)) {x y:Int} (hx:x∈aN R L L.length) (hy:y∈bP R L L.length):x≠y:=by
 obtain⟨i,hi,rfl,h1⟩:=kD hx;obtain⟨j,hj,rfl,h2⟩:=mN hy;intro e;rcases ab8 i j with h|rfl|h
 .have:=zU hu h hj
  omega
 .rw[h1] at h2
  cases h2
 .have:=zU hu h hi
  omega
theorem MB {R:List (List Int)} {L:List Int} (h6:L.length=6) (hu:L.Pairwise (· <·)) (hs:∀x∈L,0<=x/\x<1048576) (h3:(aN R L 6).length=3):(∀p∈cout (aN R L 6) (bP R L 6) 3,dw (key p))/\qX (cout (aN R L 6) (bP R L 6) 3):=by
 have hn:=kB R L 6;obtain⟨a,b,c,eN⟩:=nY h3;obtain⟨x,y,z,eF⟩:=nY (L:=bP R L 6) (by omega);have uN:=tZ (R:=R) hu (k:=6) (by omega);have uF:=yu (R:=R) hu (k:=6) (by omega);have ap:∀p∈aN R L 6,∀q∈bP R L 6,p≠q:=fun p hp q hq=>zI (R:=R) hu (by rw[h6];exact hp) (by rw[h6];exact hq)
 have sN:∀p∈aN R L 6,0<=p/\p<1048576:=fun p hp=>by
  obtain⟨i,hi,rfl,-⟩:=kD hp;exact uj hs (by omega)
 have sF:∀p∈bP R L 6,0<=p/\p<1048576:=fun p hp=>by
  obtain⟨i,hi,rfl,-⟩:=mN hp;exact uj hs (by omega)
 rw[eN] at uN ap sN ⊢;rw[eF] at uF ap sF ⊢;rw[VW];simp only[aa4,abN,or_false,forall_eq_or_imp,forall_eq] at sN sF ap;simp only[abD,aa4,abN,or_false,forall_eq_or_imp,forall_eq] at uN uF;obtain⟨s1,s2,s3⟩:=sN;obtain⟨t1,t2,t3⟩:=sF;obtain⟨⟨a1,a2,a3⟩,⟨a4,a5,a6⟩,a7,a8,a9⟩:=ap;obtain⟨⟨u1,u2⟩,u3,-⟩:=uN;obtain⟨⟨v1,v2⟩,v3,-⟩:=uF;refine⟨?_,AY ?_⟩
 .simp only[aa4,abN,or_false,forall_eq_or_imp,forall_eq]
  refine⟨?_,?_,?_,?_,?_,?_,?_,?_,?_⟩<;>exact Qp (by assumption) (by assumption)
 .simp only[abD,aa4,abN,or_false,forall_eq_or_imp,forall_eq,false_implies,implies_true,List.Pairwise.nil,and_true]
  refine⟨⟨?_,?_,?_,?_,?_,?_,?_,?_⟩,⟨?_,?_,?_,?_,?_,?_,?_⟩,⟨?_,?_,?_,?_,?_,?_⟩,⟨?_,?_,?_,?_,?_⟩,⟨?_,?_,?_,?_⟩,⟨?_,?_,?_⟩,⟨?_,?_⟩,?_⟩<;>exact I3 (by omega) (by omega)
end Ku
end
section
open Go.RowKit Go.Sort Go.Maps
namespace Ku
open Classical in
noncomputable def Fu (R:List (List Int)) (kd:Int) (br:List Int) (ps:List (Int×Int)):Option (Int×List Int×List (List Int)):=if All R ps then some (kd,br,ps.map (pathOf R)) else none
open Classical in
noncomputable def jY (R:List (List Int)) (es:List (Int×Int)) (m:Nat):Option (Int×List Int×List (List Int)):=
 if (aY es m).length=5/\(∀v∈aY es m,dg es v=4) then Fu R 1 (ZL (aY es m)) (dN (ZL (aY es m)) 5)
 else if (aY es m).length=6/\(∀v∈aY es m,dg es v=3)/\(aN R (ZL (aY es m)) 6).length=3 then Fu R 2 (aN R (ZL (aY es m)) 6++bP R (ZL (aY es m)) 6) (cout (aN R (ZL (aY es m)) 6) (bP R (ZL (aY es m)) 6) 3)
 else none
def aaB (o:Option (Int×List Int×List (List Int))) (w:World) (e:Ending) (w':World):Prop:=
 match o with
 |none=>e= .returned (.tuple #[kS,.bool false,.int .i64 0])
 |some (kd,br,ps)=>∃bv pv vs,e= .returned (.tuple #[.agg #[.int .i64 kd,bv,pv],.bool true,.int .i64 0])/\ak w' w.heap.size bv br/\ay w' w.heap.size pv vs ps/\∀b,bv.ownBlock=some b->pv.ownBlock≠some b/\¬cS vs b
def V8 (n:Int) (es:List (Int×Int)) (w:World) (e:Ending) (w':World):Prop:=
 ((Si.valid n es=false/\e= .returned (.tuple #[kS,.bool false,.int .i64 1]))\/∃(m:Nat) (hv:Si.Val n es),n=(m:Int)/\aaB (jY (rows es hv es.length) es m) w e w')/\Below w.heap.size w w'
theorem La {B:Nat} {cs:List Value} {R:List (List Int)} {kd:Int} {bv:Value} {ps:List (Int×Int)} {w5 w6 w X:World} {e5:Ending} (hk:oD B cs R kd bv ps w5 e5 w6) {br:List Int} (FL:ak w6 w.heap.size bv br) (hB:w.heap.size<=B) {c1 c2:Nat}
 (hX:∀b,b≠c1->b≠c2->X.heap[b]? =w6.heap[b]?) (hc:∀b,(bv.ownBlock=some b\/cS cs b\/w5.heap.size<=b)->b≠c1/\b≠c2) (hap:∀(b:Nat) (k v pv r:Value),bv.ownBlock=some b->e5= .returned (.tuple #[.agg #[k,v,pv],r])->pv.ownBlock≠some b/\¬cS cs b) {k v p r:Value} (he:e5= .returned (.tuple #[.agg #[k,v,p],r])):
 aaB (Fu R kd br ps) w (.returned (.tuple #[.agg #[k,v,p],r,.int .i64 0])) X:=by
 unfold Fu;rcases hk.1 with ⟨h1,h2⟩|⟨h1,pv,vs,h2,h3,h4,h5⟩
 .rw[if_neg h1]
  rw[h2] at he;unfold kS at he;cases he;rfl
 .rw[if_pos h1]
  have ZZ:=hap;rw[h2] at he ZZ;cases he;refine⟨_,_,vs,rfl,FL.same fun g hg _=> ?_,(h3.lower hB).kept fun b hb _=> ?_,fun b hb=> ?_⟩
  .obtain⟨a1,a2⟩:=hc g (.inl hg)
   exact hX g a1 a2
  .obtain⟨a1,a2⟩:=hc b (by
    rcases hb with hb|hb
    .exact .inr (.inr (h4 b hb))
    .exact .inr (.inl (h5 b hb)))
   exact hX b a1 a2
  .obtain⟨a1,a2⟩:=ZZ b _ _ _ _ hb rfl
   exact⟨a1,fun h=>a2 (h5 b h)⟩
theorem pE {u:World} {k8:Nat} (x y z:Value) (b:Nat) (hb:b≠k8):(((u.setCell ⟨k8,0,none⟩ x).setCell ⟨k8,1,none⟩ y).setCell ⟨k8,2,none⟩ z).heap[b]? =u.heap[b]? :=by
 rw[heap_setCell_other _ ⟨k8,2,none⟩ b _ hb,heap_setCell_other _ ⟨k8,1,none⟩ b _ hb,heap_setCell_other _ ⟨k8,0,none⟩ b _ hb]
theorem Ix {R:List (List Int)} {es:List (Int×Int)} {m:Nat} (h:(aY es m).length=5) (hd:∀v∈aY es m,dg es v=4):jY R es m=Fu R 1 (ZL (aY es m)) (dN (ZL (aY es m)) 5):=if_pos ⟨h,hd⟩
theorem Iw {R:List (List Int)} {es:List (Int×Int)} {m:Nat} (h:(aY es m).length=6) (hd:∀v∈aY es m,dg es v=3) (h3:(aN R (ZL (aY es m)) 6).length=3):jY R es m=Fu R 2 (aN R (ZL (aY es m)) 6++bP R (ZL (aY es m)) 6) (cout (aN R (ZL (aY es m)) 6) (bP R (ZL (aY es m)) 6) 3):=by
 unfold jY;rw[if_neg (by omega),if_pos ⟨h,hd,h3⟩]
theorem xl {R:List (List Int)} {es:List (Int×Int)} {m:Nat} (h5:¬((aY es m).length=5/\∀v∈aY es m,dg es v=4)) (h6:¬((aY es m).length=6/\(∀v∈aY es m,dg es v=3)/\(aN R (ZL (aY es m)) 6).length=3)):jY R es m=none:=by
 unfold jY;rw[if_neg h5,if_neg h6]
theorem CJ (P:Prop):∃r:Bool,r=true↔P:=by
 by_cases h:P
 .exact⟨true,by simp[h]⟩
 .exact⟨false,by simp[h]⟩
end Ku
end
end Go.Proofs.YtdbjpbjocmcpkaaGreatDoor
