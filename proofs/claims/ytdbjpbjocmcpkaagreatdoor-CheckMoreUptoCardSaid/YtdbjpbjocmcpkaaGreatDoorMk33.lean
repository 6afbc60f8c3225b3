import Derived.Test.YtdbjpbjocmcpkaaGreatDoorMk32
set_option maxHeartbeats 8000000
set_option maxRecDepth 100000
namespace Go.Proofs.YtdbjpbjocmcpkaaGreatDoor
section
open Go.Proofs.Tryz
open Go.RowKit Go.Sort Go.Maps
namespace Ku
def sL (R:List (List Int)) (L:List Int) (k:Nat):Bool:=(opn R R.length (gI L 0,gI L k)).isSome
def aS (R:List (List Int)) (L:List Int):Nat->List Int
 |0=>[]
 |k+1=>if sL R L k then aS R L k else aS R L k++[gI L k]
def bZ (R:List (List Int)) (L:List Int):Nat->List Int
 |0=>[]
 |k+1=>if sL R L k then bZ R L k++[gI L k] else bZ R L k
theorem pS (R:List (List Int)) (L:List Int) (k:Nat):(aS R L k).length+(bZ R L k).length=k:=by
 induction k with
 |zero=>rfl
 |succ k ih=>
  unfold aS bZ
  split<;>simp<;>omega
def cin (x:Int) (F:List Int):Nat->List (Int×Int)
 |0=>[]
 |j+1=>cin x F j++[(x,gI F j)]
def cout (N F:List Int):Nat->List (Int×Int)
 |0=>[]
 |i+1=>cout N F i++cin (gI N i) F F.length
theorem uJ (x:Int) (F:List Int) (j:Nat):(cin x F j).length=j:=by
 induction j with
 |zero=>rfl
 |succ j ih=>simp[cin,ih]
theorem rJ (N F:List Int) (i:Nat):(cout N F i).length=i*F.length:=by
 induction i with
 |zero=>simp[cout]
 |succ i ih=>
  unfold cout;rw[aaN,uJ,ih,ac1]
def NF (B:Nat) (cs:List Value) (R:List (List Int)) (L:List Int) (q:Nat) (w:World) (e:Ending) (w':World):Prop:=
 ((aS R L q).length≠3/\e= .returned (.tuple #[jO,.bool false])/\Below w.heap.size w w')\/
 ((aS R L q).length=3/\∃bv,av w' w.heap.size bv (aS R L q++bZ R L q)/\(∀(b:Nat) (k v pv r:Value),bv.ownBlock=some b->e= .returned (.tuple #[.agg #[k,v,pv],r])->w.heap.size<=b/\pv.ownBlock≠some b)/\jW B cs R 2 bv (cout (aS R L q) (bZ R L q) 3) w e w')
theorem mQ {R:List (List Int)} {L:List Int} {k:Nat} (h:sL R L k=true):aS R L (k+1)=aS R L k/\bZ R L (k+1)=bZ R L k++[gI L k]:=by
 simp only[aS,bZ];rw[if_pos h,if_pos h];exact⟨rfl,rfl⟩
theorem qY {R:List (List Int)} {L:List Int} {k:Nat} (h:sL R L k=false):aS R L (k+1)=aS R L k++[gI L k]/\bZ R L (k+1)=bZ R L k:=by
 have h':¬(sL R L k=true):=by rw[h];simp
 simp only[aS,bZ];rw[if_neg h',if_neg h'];exact⟨rfl,rfl⟩
theorem oz {L:List Int} (h:∀x∈L,0<=x/\x<1048576) {k:Nat} (hk:k<L.length):0<=gI L k/\gI L k<1048576:=by
 obtain⟨x,hx⟩:∃x,L[k]? =some x:=⟨_,aaC hk⟩;rw[dL hx];exact h x (aaG hx)
end Ku
theorem JL (B:Nat) (ca:Option Addr) (J cc mb nb:Nat) (cs:List Value) (R:List (List Int)) (bo:Option Addr) (q bc:Nat) (L:List Int) (w:World)
 (hJ:R.length=J) (hBw:B<=w.heap.size) (hR:ay w B (.slice ca J cc) cs R) (hS:Ku.Small R) (jf:Ku.OM w mb nb (Ku.opn R R.length)) (hmb:¬bY cs mb) (hq:L.length=q) (UD:q=6) (hL:aZ w bo L) (Sv:∀x∈L,0<=x/\x<1048576)
 (hin:(Ku.aS R L q).length=3->∀p∈Ku.cout (Ku.aS R L q) (Ku.bZ R L q) 3,dI (Ku.key p)) (hd:(Ku.aS R L q).length=3->∀(t t':Nat) (p p':Int×Int),t≠t'->(Ku.cout (Ku.aS R L q) (Ku.bZ R L q) 3)[t]? =some p->(Ku.cout (Ku.aS R L q) (Ku.bZ R L q) 3)[t']? =some p'->Ku.key p≠Ku.key p'):
 Calls prog 149 #[.agg #[.slice ca J cc,.map (some mb)],.slice bo q bc] w (Ku.NF B cs R L q w):=by
 obtain⟨W1,hW1⟩:∃W1,W1=w.alloc (.cells #[.slice ca J cc,.map (some mb)] 248):=⟨_,rfl⟩;obtain⟨W,hW⟩:∃W,W=W1.alloc (.cells #[.int .i64 0,.slice none 0 0,.slice none 0 0] 82):=⟨_,rfl⟩;have hs1:W1.heap.size=w.heap.size+1:=by rw[hW1];simp
 have hB1:Below w.heap.size w W1:=by rw[hW1];exact(aaE _ _).alloc (aaD _) _
 have hB2:Below W1.heap.size W1 W:=by rw[hW];exact(aaE _ _).alloc (aaD _) _
 have hBW:Below w.heap.size w W:=hB1.trans (hB2.mono hB1.size);have g1:W.heap[w.heap.size]? =some (.cells #[.slice ca J cc,.map (some mb)] 248 (0,0)):=by
  rw[hB2.block _ (by omega),hW1];exact heap_alloc_new w _
 have g2:W.heap[w.heap.size+1]? =some (.cells #[.int .i64 0,.slice none 0 0,.slice none 0 0] 82 (0,0)):=by rw[hW,<-hs1];exact heap_alloc_new W1 _
 have Po:w.heap.size+1<W.heap.size:=lt_of_block g2;have HW:Hid (W=(w.alloc (.cells #[.slice ca J cc,.map (some mb)] 248)).alloc (.cells #[.int .i64 0,.slice none 0 0,.slice none 0 0] 82)):=by rw[hW,hW1];exact ζ rfl
 have dP:Hid (∀b,bY cs b->b<w.heap.size):=fun b hb=>(hR.within (.inr hb)).2
 have gu:=ζ g1;have dF:=ζ g2;have eM:=ζ hBW;have HL:=ζ hL;have HQ:=ζ hq;obtain⟨N,hN⟩:∃N,Ku.aS R L q=N:=⟨_,rfl⟩;obtain⟨F,hF⟩:∃F,Ku.bZ R L q=F:=⟨_,rfl⟩;have hNF:N.length+F.length=q:=by rw[<-hN,<-hF];exact Ku.pS R L q
 have Tj:Hid (∀(U:World) (xa:Option Addr) (xn xc:Nat) (pa:Option Addr) (pn pc:Nat),N.length=3->pn=(Ku.cout N F 3).length->Below W.heap.size W U->ah U pa (Ku.cout N F 3)->(∀x,pa=some x->W.heap.size<=x.block)->Calls prog 213 #[.agg #[.slice ca J cc,.map (some mb)],.int .i64 2,.slice xa xn xc,.slice pa pn pc] U (Ku.jW B cs R 2 (.slice xa xn xc) (Ku.cout N F 3) U)):=fun U xa xn xc pa pn pc h3 zH hU hpa ni=>by
  have hbl:Below w.heap.size w U:=hBW.trans (hU.mono hBW.size);refine vW B ca J cc mb nb cs R 2 xa xn xc pa pn pc (Ku.cout N F 3) U hJ (aaM hBw hbl.size) (hR.later hbl) hS (jf.later hbl) hmb zH.symm ?_ hpa (fun x hx hi=> ?_) (by rw[<-hN,<-hF];exact hin (by rw[hN];exact h3)) (by rw[<-hN,<-hF];exact hd (by rw[hN];exact h3))
  .rw[zH,Ku.rJ]
   omega
  .have h1:=ni x hx
   have h2:=dP.out _ hi;omega
 have gX:Hid (∀(U:World) (k:Nat),k<q->Below W.heap.size W U->(Instr.lookup 246 (.map (some mb)) (.agg #[.int .i64 (Ku.gI L 0),.int .i64 (Ku.gI L k)]) true).run prog U= .ok (.tuple #[.int .i64 (((Ku.opn R R.length (Ku.gI L 0,Ku.gI L k)).getD 0:Nat):Int),.bool (Ku.sL R L k)]) U):=fun U k hk hU=>by
  have a:=Ku.oz Sv (k:=0) (by omega);have b:=Ku.oz Sv (k:=k) (by omega);exact(jf.later (hBW.trans (hU.mono hBW.size))).Mf (p:=(Ku.gI L 0,Ku.gI L k)) (by unfold dI;dsimp only;omega)
 have HN:=ζ hN;have HF:=ζ hF;have HQ6:=ζ UD;have zE:q<=6:=by omega
 have hqp:0<q:=by omega
 clear hW hW1 hs1 hB1 hB2 hBW g1 g2 hR hS jf hmb hq hL hin hd hJ Sv hN hF UD;go_enter func149,ntmps149;go_wp2_with fail;rw[<-HW.out];go_loopw [6,7,19] (fun nv fv cv wr=>∃(i:Nat),i<=q/\cv= .int .i64 (i:Int)/\av wr W.heap.size nv (Ku.aS R L i)/\av wr W.heap.size fv (Ku.bZ R L i)/\(∀b,nv.ownBlock=some b->fv.ownBlock≠some b)/\Below W.heap.size W wr) (fun _ _ cv _=>q-(intOf cv).toNat)
 case atStart=>exact⟨0,aaL _,rfl,av.nil _ _,av.nil _ _,fun b hb=>(by cases hb),aaE _ _⟩
 case round=>
  obtain⟨i,hi,rfl,hno,hfo,hap,hb⟩:=hrel;obtain⟨U,rfl⟩:∃U,U=wr:=⟨wr,rfl⟩;have mA:=ζ hno;have Ty:=ζ hfo;have IE:=ζ hap;have HB:=ζ hb;have hwi:IntKind.i64.wrap ((i:Int)+1)=(i:Int)+1:=by rw[aaK];omega
  obtain⟨na,nc,hne,hni,-⟩:=hno.form;obtain⟨fa,fc,xR,j6,-⟩:=hfo.form;have hnl:=Ku.pS R L i;obtain⟨kn,hkn⟩:∃kn,(Ku.aS R L i).length=kn:=⟨_,rfl⟩;obtain⟨kf,R1⟩:∃kf,(Ku.bZ R L i).length=kf:=⟨_,rfl⟩;rw[hkn] at hne hnl;rw[R1] at xR hnl;subst hne;subst xR;have WX:=ζ hkn;have WZ:=ζ R1;have WJ:=ζ hni;have qz:=ζ j6;have Mv:=hb.size;clear hkn R1 hap hni j6;by_cases hlt:i<q
  .have aX:(i:Int)<(q:Int):=by omega
   have xO:(0:Int)<=(i:Int):=by omega
   have GP:(0:Int)<(q:Int):=by omega
   obtain⟨x,hx⟩:∃x,L[i]? =some x:=⟨_,aaC (by rw[HQ.out];exact hlt)⟩;obtain⟨x0,hx0⟩:∃x,L[0]? =some x:=⟨_,aaC (by rw[HQ.out];omega)⟩;have cm:Below w.heap.size w U:=eM.out.trans (hb.mono eM.out.size);obtain⟨b,o,rfl,e0⟩:=(HL.out.later cm) i x hx;obtain⟨_,_,ee,e1⟩:=(HL.out.later cm) 0 x0 hx0;cases ee;rw[abv] at e1;obtain⟨-,c1,-⟩:=af ((hb.block _ (by omega)).trans gu.out);have Lr:=ζ (Ku.dL hx);obtain⟨jn,hjn⟩:∃jn,Ku.sL R L i=jn:=⟨_,rfl⟩;obtain⟨ci,vk⟩:∃ci,(((Ku.opn R R.length (Ku.gI L 0,Ku.gI L i)).getD 0:Nat):Int)=ci:=⟨_,rfl⟩;have hlk:∀D:LW U,(Instr.lookup 246 (.map (some mb)) (.agg #[.int .i64 x0,.int .i64 x]) true).run prog D.val= .ok (.tuple #[.int .i64 ci,.bool jn]) D.val:=fun D=>by
    have:=gX.out D.val i hlt (hb.trans (D.h.mono Mv));rw[vk,hjn,Ku.dL hx,Ku.dL hx0] at this;exact this
   have d1:∀D:LW U,D.val.cell? ⟨b,o,none⟩=some (.int .i64 x0):=fun D=>(D.h.cell (p:=⟨b,o,none⟩) (block_lt_of_cell e1)).trans e1
   have d2:∀D:LW U,D.val.cell? ⟨w.heap.size,1,none⟩=some (.map (some mb)):=fun D=>(D.h.cell (p:=⟨w.heap.size,1,none⟩) (block_lt_of_cell c1)).trans c1
   have hne:=LW.any U;have N8:=ζ hjn;clear hno hfo hb hx hx0 cm vk hjn e1;go_wp2_with fail;refine bP (by kernel_rfl) (by kernel_rfl) ?_
   repeat (go_big_quiet_step (fail))
   refine wpQuiet_nil ?_;rintro _ ⟨E,rfl⟩;have gw:=ζ (HB.out.trans (E.h.mono Mv));have rQ:=ζ (mA.out.later E.h);have Iy:=ζ (Ty.out.later E.h);obtain⟨V,hV⟩:∃V,V=E.val:=⟨_,rfl⟩;rw[<-hV] at gw rQ Iy ⊢;have Kz:W.heap.size<=V.heap.size:=gw.out.size;clear d1 d2 hlk hne hV c1 e0;cases jn with
   |true=>
    obtain⟨hn1,nj⟩:=Ku.mQ N8.out;rw[Lr.out] at nj;have tH:=ζ hn1;have Oc:=ζ nj;have fY:(Ku.bZ R L i).length<=17592186044000:=by rw[WZ.out];omega
    clear hn1 nj;go_wp2_with (at_builtin;refine eG rfl _ _ rfl _ W.heap.size _ _ x Iy.out Kz fY rfl rfl ?_;refine aaH ?_);refine ζ ?_;intro v' w3 hr3 hg3 x7 hb3;have mz:=ζ hr3;have aK:=ζ (gw.out.trans hb3);have FH:Hid (av w3 W.heap.size (.slice na kn nc) (Ku.aS R L i)):=rQ.out.same fun g hg hl=>(hg3.block g (by simp;omega) (fun e=>IE.out g hg e.symm)).trans (heap_alloc_old V _ hl)
    have TK:Hid (∀b,(Value.slice na kn nc).ownBlock=some b->v'.ownBlock≠some b):=fun b hb e=>by
     rcases x7 with h|h
     .exact IE.out b hb (h▸e)
     .rw[h] at e
      cases e;have:=(aaJ rQ.out _ hb).2;omega
    clear hr3 hg3 x7 hb3;go_wp2;go_roundw
    case rel=>exact⟨i+1,by omega,by go_num,by rw[tH.out];exact FH.out,by rw[Oc.out];exact mz.out,TK.out,aK.out⟩
    case measure=>simp[intOf];omega
   |false=>
    obtain⟨hn1,nj⟩:=Ku.qY N8.out;rw[Lr.out] at hn1;have tH:=ζ hn1;have Oc:=ζ nj;have fY:(Ku.aS R L i).length<=17592186044000:=by rw[WX.out];omega
    clear hn1 nj;go_wp2_with (at_builtin;refine eG rfl _ _ rfl _ W.heap.size _ _ x rQ.out Kz fY rfl rfl ?_;refine aaH ?_);refine ζ ?_;intro v' w3 hr3 hg3 x7 hb3;have mz:=ζ hr3;have aK:=ζ (gw.out.trans hb3);have FH:Hid (av w3 W.heap.size (.slice fa kf fc) (Ku.bZ R L i)):=Iy.out.same fun g hg hl=>(hg3.block g (by simp;omega) (fun e=>IE.out g e.symm hg)).trans (heap_alloc_old V _ hl)
    have TK:Hid (∀b,v'.ownBlock=some b->(Value.slice fa kf fc).ownBlock≠some b):=fun b hb e=>by
     rcases x7 with h|h
     .exact IE.out b (h▸hb) e
     .rw[h] at hb
      cases hb;have:=(aaJ Iy.out _ e).2;omega
    clear hr3 hg3 x7 hb3;go_wp2;go_roundw
    case rel=>exact⟨i+1,by omega,by go_num,by rw[tH.out];exact mz.out,by rw[Oc.out];exact FH.out,TK.out,aK.out⟩
    case measure=>simp[intOf];omega
  .have hdn:¬((i:Int)<(q:Int)):=by omega
   obtain rfl:i=q:=by omega
   have Ng:N.length=kn:=by rw[<-HN.out];exact WX.out
   have Ni:F.length=kf:=by rw[<-HF.out];exact WZ.out
   rw[HN.out] at mA;rw[HF.out] at Ty;rw[HN.out] at WJ;rw[HF.out] at qz;have NZ:=ζ Ng;have FN:=ζ Ni;clear hno hfo Ng Ni;by_cases h3:kn=3
   .have t3:((kn:Int) != 3)=false:=by simp[h3]
    have hk3:kn<=3:=by omega
    have Tl:=ζ h3;clear h3;go_wp2_with fail;go_loopw [12,50] (fun pv cv wr=>∃(i:Nat),i<=kn/\cv= .int .i64 (i:Int)/\iA wr U.heap.size pv (Ku.cout N F i)/\Below U.heap.size U wr) (fun _ cv _=>kn-(intOf cv).toNat)
    case atStart=>exact⟨0,aaL _,rfl,iA.nil _ _,aaE _ _⟩
    case round=>
     rename_i iq _ _ _ _
     obtain⟨p,hp,rfl,hown,vn⟩:=hrel;obtain⟨V,rfl⟩:∃V,V=wr:=⟨wr,rfl⟩;have HO:=ζ hown;have CR:=ζ vn;have Kz:=vn.size;have hwp:IntKind.i64.wrap ((p:Int)+1)=(p:Int)+1:=by rw[aaK];omega
     obtain⟨pa,pc,kZ,hpat,ni⟩:=hown.form;by_cases hlt:p<kn
     .have aX:(p:Int)<(kn:Int):=by omega
      have ME:(0:Int)<=(p:Int):=by omega
      obtain⟨x,hx⟩:∃x,N[p]? =some x:=⟨_,aaC (by rw[NZ.out];exact hlt)⟩;obtain⟨b,o,rfl,e0⟩:=(WJ.out.later vn) p x hx;have Lr:=ζ (Ku.dL hx);clear hown kZ hpat ni vn hx;go_wp2_with fail;go_loopw [12,56] (fun pv cv wr=>∃(j:Nat),j<=kf/\cv= .int .i64 (j:Int)/\iA wr U.heap.size pv (Ku.cout N F p++Ku.cin (Ku.gI N p) F j)/\Below U.heap.size U wr) (fun _ cv _=>kf-(intOf cv).toNat)
      case atStart=>exact⟨0,aaL _,rfl,by rw[show Ku.cin (Ku.gI N p) F 0=[] from rfl,abp];exact HO.out,CR.out⟩
      case round=>
       obtain⟨j,hj,rfl,hown,hb2⟩:=hrel;obtain⟨X,rfl⟩:∃X,X=wr:=⟨wr,rfl⟩;have yU:=ζ hown;have aC:=ζ hb2;have hs2:=hb2.size;have Um:IntKind.i64.wrap ((j:Int)+1)=(j:Int)+1:=by rw[aaK];omega
       by_cases hjl:j<kf
       .have U7:(j:Int)<(kf:Int):=by omega
        have hj0:(0:Int)<=(j:Int):=by omega
        obtain⟨y,hy⟩:∃y,F[j]? =some y:=⟨_,aaC (by rw[FN.out];exact hjl)⟩;obtain⟨b',o',rfl,e1⟩:=(qz.out.later hb2) j y hy;have lp:Hid (Ku.cout N F p++Ku.cin (Ku.gI N p) F (j+1)=Ku.cout N F p++Ku.cin (Ku.gI N p) F j++[(x,y)]):=by
         show _=_;rw[abr]
         congr 1
         show Ku.cin (Ku.gI N p) F j++[(Ku.gI N p,Ku.gI F j)]=_;rw[Lr.out,Ku.dL hy]
        have fY:(Ku.cout N F p++Ku.cin (Ku.gI N p) F j).length<=8796093022000:=by
         rw[aaN,Ku.uJ,Ku.rJ,FN.out];have h2:p*kf<=6*6:=adb (by omega) (by omega);omega
        clear hown hb2 hy;go_wp2_with (at_builtin;refine oY rfl _ _ rfl _ U.heap.size _ _ x y yU.out hs2 fY rfl rfl ?_;refine aaH ?_);refine ζ ?_;intro v' w3 hrow3 hb3;have mz:=ζ hrow3;have aK:=ζ (aC.out.trans hb3);clear hrow3 hb3;go_wp2;go_roundw
        case rel=>exact⟨j+1,by omega,by go_num,by rw[lp.out];first|exact mz.out|(rw[abr];exact mz.out),aK.out⟩
        case measure=>simp[intOf];omega
       .have Vq:¬((j:Int)<(kf:Int)):=by omega
        obtain rfl:j=kf:=by omega
        have Zp:Hid (Ku.cout N F (p+1)=Ku.cout N F p++Ku.cin (Ku.gI N p) F j):=by
         show _=_;rw[show Ku.cout N F (p+1)=Ku.cout N F p++Ku.cin (Ku.gI N p) F F.length from rfl,FN.out]
        clear hown hb2;go_wp2;go_roundw
        case rel=>exact⟨p+1,by omega,by go_num,by rw[Zp.out];exact yU.out,aC.out⟩
        case measure=>simp[intOf];omega
     .have hdp:¬((p:Int)<(kn:Int)):=by omega
      obtain rfl:p=kn:=by omega
      have hpk:=Tl.out;rw[hpk] at kZ hpat;have hbW:Below W.heap.size W V:=hb.trans (vn.mono Mv);have eD:=ζ hbW;have Ng:=NZ.out;have Ni:=FN.out;have Wy:Hid (∀x,pa=some x->W.heap.size<=x.block):=fun x hx=>by have:=(ni x hx).1;omega
      have Oj:Hid (∀(ty:TypeId) (Y:World),Below V.heap.size V Y->Y.heap[V.heap.size]? =some (.cells #[.slice na p nc,.slice fa kf fc] ty (0,0))->Calls prog 91 #[.slice (some ⟨V.heap.size,0,none⟩) 2 2] Y fun e u=>∃xa xn xc,e= .returned (.slice xa xn xc)/\av u V.heap.size (.slice xa xn xc) (N++F)/\Below V.heap.size V u/\ah u pa (Ku.cout N F 3)/\Below W.heap.size W u):=fun ty Y hY hbl=>by
       obtain⟨k0,k1,-⟩:=af hbl;obtain⟨a1,d1,g1,g2,-⟩:=av.oQ (mA.out.later (vn.trans (hY.mono Kz)));obtain⟨a2,d2,g3,g4,-⟩:=av.oQ (Ty.out.later (vn.trans (hY.mono Kz)));rw[Ng] at g1 g2;rw[Ni] at g3 g4;cases g1;cases g3;refine(Bk V.heap.size na fa p kf nc fc N F Y k0 k1 g2 g4 (by omega) (by omega)).mono ?_;rintro e u ⟨v,rfl,ho,Yw⟩;have Sq:Below V.heap.size V u:=hY.trans (Yw.mono hY.size);obtain⟨xa,xc,je,-,-⟩:=ho.form;subst je;exact⟨_,_,_,rfl,ho.lower hY.size,Sq,hpat.later Sq,hbW.trans (Sq.mono hbW.size)⟩
      obtain⟨pn,zH⟩:∃pn,(Ku.cout N F 3).length=pn:=⟨_,rfl⟩;rw[zH] at kZ;subst kZ;have FD:Hid (pn=(Ku.cout N F 3).length):=zH.symm;have Zq:Hid (N.length=3):=NZ.out.trans Tl.out;obtain⟨c0,c1,-⟩:=af ((hbW.block _ (by omega)).trans gu.out);have zU:Hid (∀Y:World,Below V.heap.size V Y->Y.cell? ⟨w.heap.size,0,none⟩=some (.slice ca J cc)/\Y.cell? ⟨w.heap.size,1,none⟩=some (.map (some mb))):=fun Y hY=>by
       obtain⟨c0,c1,-⟩:=af ((hY.block _ (by omega)).trans ((hbW.block _ (by omega)).trans gu.out));exact⟨c0,c1⟩
      have zT:Hid (∀(u e u2:_),Below V.heap.size V u->∀bv,Ku.jW B cs R 2 bv (Ku.cout N F 3) u e u2->u2.heap[w.heap.size]? =some (.cells #[.slice ca J cc,.map (some mb)] 248 (0,0))/\u2.heap[w.heap.size+1]? =some (.cells #[.int .i64 0,.slice none 0 0,.slice none 0 0] 82 (0,0))):=fun u e u2 hu bv hk=>by
       have:=hu.size;exact⟨(hk.2.block _ (by omega) (fun h=>by have:=dP.out _ h;omega)).trans ((hu.block _ (by omega)).trans ((hbW.block _ (by omega)).trans gu.out)),(hk.2.block _ (by omega) (fun h=>by have:=dP.out _ h;omega)).trans ((hu.block _ (by omega)).trans ((hbW.block _ (by omega)).trans dF.out))⟩
      have CG:Hid (∀(u2:World) (x y z:Value),u2.heap[w.heap.size]? =some (.cells #[.slice ca J cc,.map (some mb)] 248 (0,0))->(((u2.setCell ⟨w.heap.size+1,0,none⟩ x).setCell ⟨w.heap.size+1,1,none⟩ y).setCell ⟨w.heap.size+1,2,none⟩ z).cell? ⟨w.heap.size,0,none⟩=some (.slice ca J cc)/\(((u2.setCell ⟨w.heap.size+1,0,none⟩ x).setCell ⟨w.heap.size+1,1,none⟩ y).setCell ⟨w.heap.size+1,2,none⟩ z).cell? ⟨w.heap.size,1,none⟩=some (.map (some mb))):=fun u2 x y z h=>by
       have hne:w.heap.size≠w.heap.size+1:=by omega
       have e:(((u2.setCell ⟨w.heap.size+1,0,none⟩ x).setCell ⟨w.heap.size+1,1,none⟩ y).setCell ⟨w.heap.size+1,2,none⟩ z).heap[w.heap.size]? =some (.cells #[.slice ca J cc,.map (some mb)] 248 (0,0)):=by
        rw[heap_setCell_other _ ⟨w.heap.size+1,2,none⟩ _ _ hne,heap_setCell_other _ ⟨w.heap.size+1,1,none⟩ _ _ hne,heap_setCell_other _ ⟨w.heap.size+1,0,none⟩ _ _ hne];exact h
       obtain⟨c0,c1,-⟩:=af e;exact⟨c0,c1⟩
      have NP:=zU.out V (aaE _ _);have kg:=zU.out V.drew (aaE _ _).drew;clear hown hpat ni vn hb hbW zH Ng Ni hpk c0 c1;go_wp2_with fail
      go_region_held3 (fun Y=>Y.cell? ⟨w.heap.size,0,none⟩=some (.slice ca J cc)/\Y.cell? ⟨w.heap.size,1,none⟩=some (.map (some mb)))
       (first|exact NP|exact kg|exact hS1|exact yg|exact CG.out _ _ _ _ m1|exact zU.out _ ((aaE _ _).alloc (aaD _) _)|exact zU.out _ ((aaE _ _).alloc (aaD _) _).drew|exact zU.out _ ((aaE _ _).drew.alloc (aaD _) _))
       (first
         |(go_at_call 91;(first|refine(Oj.out _ _ ((aaE _ _).alloc (aaD _) _) (heap_alloc_new V _)).mono ?_|refine(Oj.out _ _ ((aaE _ _).drew.alloc (aaD _) _) (heap_alloc_new V.drew _)).mono ?_|refine(Oj.out _ _ ((aaE _ _).alloc (aaD _) _).drew (heap_alloc_new V _)).mono ?_);rintro e u1 ⟨xa,xn,xc,rfl,ho1,hb1,VN,hW1⟩;have hS1:=zU.out u1 hb1)
         |(go_at_call 213;refine(Tj.out u1 xa xn xc pa pn pc Zq.out FD.out hW1 VN Wy.out).mono ?_;intro e u2 hkp;obtain⟨m1,m2⟩:=zT.out u1 e u2 hb1 _ hkp;have yg:=(fun (h:u2.heap[w.heap.size]? =some (.cells #[.slice ca J cc,.map (some mb)] 248 (0,0)))=>And.intro (af h).1 (af h).2.1) m1;obtain⟨z0,z1,z2,zf⟩:=bw m2;have hf0:=zf 0;have nj:=zf 1;have hf2:=zf 2;obtain⟨y1,s1,s2,s3,q1,q2,q3,r,rfl⟩:=hkp.shape))
      have hsu:=hb1.size;have FE:Hid (∀x y z:Value,av (((u2.setCell ⟨w.heap.size+1,0,none⟩ x).setCell ⟨w.heap.size+1,1,none⟩ y).setCell ⟨w.heap.size+1,2,none⟩ z) w.heap.size (.slice xa xn xc) (N++F)):=fun x y z=>(ho1.lower (by omega)).same fun g hg hl=>by
       have h1:=(aaJ ho1 _ hg).1;have hne:g≠w.heap.size+1:=by omega
       rw[heap_setCell_other _ ⟨w.heap.size+1,2,none⟩ g _ hne,heap_setCell_other _ ⟨w.heap.size+1,1,none⟩ g _ hne,heap_setCell_other _ ⟨w.heap.size+1,0,none⟩ g _ hne];exact hkp.2.block g hl (fun h=>by have:=dP.out _ h;omega)
      have zh:=ζ (fun x y z:Value=>hkp.far (w:=w) (V:=((u2.setCell ⟨w.heap.size+1,0,none⟩ x).setCell ⟨w.heap.size+1,1,none⟩ y).setCell ⟨w.heap.size+1,2,none⟩ z) (eM.out.trans (hW1.mono eM.out.size)) (c:=w.heap.size+1) ⟨by omega,by omega⟩ dP.out (fun b hb=>by rw[heap_setCell_other _ ⟨w.heap.size+1,2,none⟩ b _ hb,heap_setCell_other _ ⟨w.heap.size+1,1,none⟩ b _ hb,heap_setCell_other _ ⟨w.heap.size+1,0,none⟩ b _ hb]) (by simp) rfl rfl rfl);have Xt:Hid (∀(b:Nat) (k v pv r':Value),(Value.slice xa xn xc).ownBlock=some b->Ending.returned (.tuple #[.agg #[.int .i64 y1,.slice s1 s2 s3,.slice q1 q2 q3],.bool r])= .returned (.tuple #[.agg #[k,v,pv],r'])->w.heap.size<=b/\pv.ownBlock≠some b):=fun b k v pv r' hb he=>by
       have hlt:=aaJ ho1 _ hb;refine⟨by omega,fun e=> ?_⟩;rcases hkp.1 with ⟨_,h⟩|⟨_,pv2,vs2,h,_,h3,_⟩
       .rw[h] at he
        unfold Ku.jO at he;cases he;cases e
       .rw[h] at he
        cases he;have:=h3 b e;omega
      have zV:Hid ((Ku.aS R L i).length=3):=by rw[HN.out,NZ.out];exact Tl
      clear hkp ho1 hb1 VN hW1 m1 m2 zf hS1 yg NP kg;go_wp2;refine bodyPost_ret (dr rfl rfl _ _ (w.heap.size+1) _ _ _ _ rfl rfl (aA z0 z1 z2 _ _ _).1 (aA z0 z1 z2 _ _ _).2.1 (aA z0 z1 z2 _ _ _).2.2) rfl ?_;exact .inr ⟨zV.out,_,by rw[HN.out,HF.out];exact FE.out _ _ _,Xt.out,by rw[HN.out,HF.out];exact zh.out _ _ _⟩
   .have t3:((kn:Int) != 3)=true:=by simp;omega
    have WI:Hid ((Ku.aS R L i).length≠3):=by rw[HN.out,NZ.out];exact ζ h3
    obtain⟨z0,z1,z2,zf⟩:=bw ((hb.block _ (by omega)).trans dF.out);have hf0:=zf 0;have nj:=zf 1;have hf2:=zf 2;have CQ:Hid (∀x y z:Value,Below w.heap.size w (((U.setCell ⟨w.heap.size+1,0,none⟩ x).setCell ⟨w.heap.size+1,1,none⟩ y).setCell ⟨w.heap.size+1,2,none⟩ z)):=fun x y z=>cL (eM.out.trans (hb.mono eM.out.size)) (by omega) x y z
    clear zf hb h3;go_wp2;refine bodyPost_ret (dr rfl rfl _ _ (w.heap.size+1) _ _ _ _ rfl rfl (aA z0 z1 z2 _ _ _).1 (aA z0 z1 z2 _ _ _).2.1 (aA z0 z1 z2 _ _ _).2.2) rfl ?_;exact .inl ⟨WI.out,rfl,CQ.out _ _ _⟩
end
section
open Go.RowKit Go.Sort Go.Maps
namespace Ku
theorem OD {S:Gs} {l:List Nat} {v:Nat} (h:v∈vs S l):∃x∈l,v=S.fr x\/v=S.to x:=by
 cases l with
 |nil=>simp[vs] at h
 |cons a l=>
  simp only[vs,aaW,abu] at h;rcases h with rfl|⟨x,hx,rfl⟩
  .exact⟨a,List.mem_cons_self,.inl rfl⟩
  .exact⟨x,aaW.2 hx,.inr rfl⟩
theorem Cn.nd0 {S:Gs} {l:List Nat} (c:Cn S l):l.Nodup:=by
 rcases c.kind with o|o
 .exact o.nodup
 .exact o.1.nd
theorem Dh {n:Int} {es:List (Int×Int)} (hv:Si.Val n es):Small (rows es hv es.length):=by
 have hf:=hv.few;have hh:=hv.hi;refine⟨by rw[qM];have:=uK (es:=es) (hv:=hv) es.length;omega,fun l hl=> ?_⟩;obtain⟨t,ht⟩:=abf hl;obtain⟨c,hc,rfl⟩:=LL ht;have KE:=PC (aaD _) (aaG hc);have h1:=lW KE.nd0 KE.lt;have h3:(gs es hv).M=2*es.length:=rfl;rw[h3] at h1;have hne:=KE.ne;have h2:=acu.2 hne;rw[fB,bI hne];refine⟨by omega,by omega,fun x hx=> ?_⟩;obtain⟨v,RB,rfl⟩:=abu.1 hx;obtain⟨y,hy,e⟩:=OD RB;have pW:y<2*es.length:=KE.lt y hy;have key:∀z,z<2*es.length->((Cs.fr es z:Nat):Int)<n:=fun z hz=>by
  obtain⟨m,rfl⟩:∃m:Nat,n=(m:Int):=⟨n.toNat,by have:=hv.lo;omega⟩;have:=(Cs.dG hv hz).1;omega
 rcases e with rfl|rfl
 .have:=key y pW
  show(0:Int)<=((Cs.fr es y:Nat):Int)/\((Cs.fr es y:Nat):Int)<1048576;omega
 .have:=key (Cs.twin y) ((gs es hv).tl y pW)
  show(0:Int)<=((Cs.fr es (Cs.twin y):Nat):Int)/\((Cs.fr es (Cs.twin y):Nat):Int)<1048576;omega
theorem mS {es:List (Int×Int)} {v:Nat}:∀{k:Nat},v∈bz es k↔v<k/\dg es v≠0/\dg es v≠2
 |0=>by simp[bz]
 |k+1=>by
  by_cases h:dg es k≠0/\dg es k≠2
  .rw[yE h,abl,mS (k:=k),aa6]
   constructor
   .rintro(⟨h1,h2⟩|rfl)
    .exact⟨by omega,h2⟩
    .exact⟨by omega,h⟩
   .rintro⟨h1,h2⟩
    by_cases e:v=k
    .exact .inr e
    .exact .inl ⟨by omega,h2⟩
  .rw[vM h,mS (k:=k)]
   constructor
   .rintro⟨h1,h2⟩
    exact⟨by omega,h2⟩
   .rintro⟨h1,h2⟩
    refine⟨?_,h2⟩;rcases Nat.lt_succ_iff_lt_or_eq.1 h1 with h3|rfl
    .exact h3
    .exact absurd h2 h
theorem Cx (es:List (Int×Int)):∀k,(bz es k).Pairwise (· <·)
 |0=>List.Pairwise.nil
 |k+1=>by
  by_cases h:dg es k≠0/\dg es k≠2
  .rw[yE h,acO]
   exact⟨Cx es k,by simp,fun a ha b hb=>by rw[aa6.1 hb];exact(mS.1 ha).1⟩
  .rw[vM h]
   exact Cx es k
theorem SS {l:List Nat} (h:l.Pairwise (· <·)):(ZL l).Pairwise (· <·):=by
 unfold ZL;rw[acj];exact h.imp fun h=>by omega
theorem Ch {L:List Int} (h:L.Pairwise (· <·)) {i j:Nat} (hij:i<j) (hj:j<L.length):gI L i<gI L j:=by
 have:=aa8.1 h i j (by omega) hj hij;rw[dL (aaC (by omega:i<L.length)),dL (aaC hj)];exact this
theorem I9 {a b c d:Int} (h1:¬(a=c/\b=d)) (h2:¬(a=d/\b=c)):key (a,b)≠key (c,d):=by
 unfold key;dsimp only;intro h
 split at h<;>split at h<;>(simp only[Prod.mk.injEq] at h;omega)
theorem Ja {p:Int×Int} (h1:0<=p.1/\p.1<1048576) (h2:0<=p.2/\p.2<1048576):dI (key p):=by
 unfold key dI
 split<;>(first|omega|(dsimp only;omega))
def qw (ps:List (Int×Int)):Prop:=∀(t t':Nat) (p p':Int×Int),t≠t'->ps[t]? =some p->ps[t']? =some p'->key p≠key p'
theorem uj {ps:List (Int×Int)} (h:ps.Pairwise fun p q=>key p≠key q):qw ps:=fun t t' p p' hne hp hp'=>by
 obtain⟨h1,e1⟩:=aaF.1 hp;obtain⟨h2,e2⟩:=aaF.1 hp';have H:=aa8.1 h;rcases Nat.lt_or_gt_of_ne hne with hlt|hlt
 .have:=H t t' h1 h2 hlt
  rw[e1,e2] at this;exact this
 .have:=H t' t h2 h1 hlt
  rw[e1,e2] at this;exact fun e=>this e.symm
theorem He {L:List Int} (h:L.length=5):∃a b c d e,L=[a,b,c,d,e]:=by
 match L,h with
 |[a,b,c,d,e],_=>exact⟨a,b,c,d,e,rfl⟩
theorem tN {L:List Int} (h:L.length=3):∃a b c,L=[a,b,c]:=by
 match L,h with
 |[a,b,c],_=>exact⟨a,b,c,rfl⟩
theorem Ri (a b c d e:Int):bX [a,b,c,d,e] 5=[(a,b),(a,c),(a,d),(a,e),(b,c),(b,d),(b,e),(c,d),(c,e),(d,e)]:=rfl
theorem SM (a b c x y z:Int):cout [a,b,c] [x,y,z] 3=[(a,x),(a,y),(a,z),(b,x),(b,y),(b,z),(c,x),(c,y),(c,z)]:=rfl
theorem LQ {L:List Int} (h5:L.length=5) (hu:L.Pairwise (· <·)) (hs:∀x∈L,0<=x/\x<1048576):(∀p∈bX L 5,dI (key p))/\qw (bX L 5):=by
 obtain⟨a,b,c,d,e,rfl⟩:=He h5;rw[Ri];simp only[aaW,abS,or_false,forall_eq_or_imp,forall_eq] at hs;simp only[abm,aaW,abS,or_false,forall_eq_or_imp,forall_eq] at hu;obtain⟨s1,s2,s3,s4,s5⟩:=hs;obtain⟨⟨u1,u2,u3,u4⟩,⟨u5,u6,u7⟩,⟨u8,u9⟩,u10,-⟩:=hu;refine⟨?_,uj ?_⟩
 .simp only[aaW,abS,or_false,forall_eq_or_imp,forall_eq]
  refine⟨?_,?_,?_,?_,?_,?_,?_,?_,?_,?_⟩<;>exact Ja (by assumption) (by assumption)
 .simp only[abm,aaW,abS,or_false,forall_eq_or_imp,forall_eq,false_implies,implies_true,List.Pairwise.nil,and_true]
  refine⟨⟨?_,?_,?_,?_,?_,?_,?_,?_,?_⟩,⟨?_,?_,?_,?_,?_,?_,?_,?_⟩,⟨?_,?_,?_,?_,?_,?_,?_⟩,⟨?_,?_,?_,?_,?_,?_⟩,⟨?_,?_,?_,?_,?_⟩,⟨?_,?_,?_,?_⟩,⟨?_,?_,?_⟩,⟨?_,?_⟩,?_⟩<;>exact I9 (by omega) (by omega)
theorem jc {R:List (List Int)} {L:List Int} {x:Int}:∀{k:Nat},x∈aS R L k->∃i,i<k/\x=gI L i/\sL R L i=false
 |0,h=>by simp[aS] at h
 |k+1,h=>by
  cases hj:sL R L k with
  |true=>
   rw[(mQ hj).1] at h;obtain⟨i,hi,e⟩:=jc h;exact⟨i,by omega,e⟩
  |false=>
   rw[(qY hj).1,abl,aa6] at h;rcases h with h|h
   .obtain⟨i,hi,e⟩:=jc h
    exact⟨i,by omega,e⟩
   .exact⟨k,by omega,h,hj⟩
theorem kT {R:List (List Int)} {L:List Int} {x:Int}:∀{k:Nat},x∈bZ R L k->∃i,i<k/\x=gI L i/\sL R L i=true
 |0,h=>by simp[bZ] at h
 |k+1,h=>by
  cases hj:sL R L k with
  |false=>
   rw[(qY hj).2] at h;obtain⟨i,hi,e⟩:=kT h;exact⟨i,by omega,e⟩
  |true=>
   rw[(mQ hj).2,abl,aa6] at h;rcases h with h|h
   .obtain⟨i,hi,e⟩:=kT h
    exact⟨i,by omega,e⟩
   .exact⟨k,by omega,h,hj⟩
theorem sB {R:List (List Int)} {L:List Int} (hu:L.Pairwise (· <·)):∀{k:Nat},k<=L.length->(aS R L k).Pairwise (· <·)
 |0,_=>List.Pairwise.nil
 |k+1,hk=>by
  cases hj:sL R L k with
  |true=>
   rw[(mQ hj).1];exact sB hu (by omega)
  |false=>
   rw[(qY hj).1,acO];refine⟨sB hu (by omega),by simp,fun a ha b hb=> ?_⟩;obtain⟨i,hi,rfl,-⟩:=jc ha;rw[aa6.1 hb];exact Ch hu hi (by omega)
theorem yt {R:List (List Int)} {L:List Int} (hu:L.Pairwise (· <·)):∀{k:Nat},k<=L.length->(bZ R L k).Pairwise (· <·)
 |0,_=>List.Pairwise.nil
 |k+1,hk=>by
  cases hj:sL R L k with
  |false=>
   rw[(qY hj).2];exact yt hu (by omega)
  |true=>
   rw[(mQ hj).2,acO];refine⟨yt hu (by omega),by simp,fun a ha b hb=> ?_⟩;obtain⟨i,hi,rfl,-⟩:=kT ha;rw[aa6.1 hb];exact Ch hu hi (by omega)
theorem Kb {R:List (List Int)} {L:List Int} (hu:L.Pairwise (· <·)) {x y:Int} (hx:x∈aS R L L.length) (hy:y∈bZ R L L.length):x≠y:=by
 obtain⟨i,hi,rfl,h1⟩:=jc hx;obtain⟨j,hj,rfl,h2⟩:=kT hy;intro e;rcases abF i j with h|rfl|h
 .have:=Ch hu h hj
  omega
 .rw[h1] at h2
  cases h2
 .have:=Ch hu h hi
  omega
theorem Nt {R:List (List Int)} {L:List Int} (h6:L.length=6) (hu:L.Pairwise (· <·)) (hs:∀x∈L,0<=x/\x<1048576) (h3:(aS R L 6).length=3):(∀p∈cout (aS R L 6) (bZ R L 6) 3,dI (key p))/\qw (cout (aS R L 6) (bZ R L 6) 3):=by
 have hn:=pS R L 6;obtain⟨a,b,c,eN⟩:=tN h3;obtain⟨x,y,z,eF⟩:=tN (L:=bZ R L 6) (by omega);have uN:=sB (R:=R) hu (k:=6) (by omega);have uF:=yt (R:=R) hu (k:=6) (by omega);have ap:∀p∈aS R L 6,∀q∈bZ R L 6,p≠q:=fun p hp q hq=>Kb (R:=R) hu (by rw[h6];exact hp) (by rw[h6];exact hq)
 have sN:∀p∈aS R L 6,0<=p/\p<1048576:=fun p hp=>by
  obtain⟨i,hi,rfl,-⟩:=jc hp;exact oz hs (by omega)
 have sF:∀p∈bZ R L 6,0<=p/\p<1048576:=fun p hp=>by
  obtain⟨i,hi,rfl,-⟩:=kT hp;exact oz hs (by omega)
 rw[eN] at uN ap sN ⊢;rw[eF] at uF ap sF ⊢;rw[SM];simp only[aaW,abS,or_false,forall_eq_or_imp,forall_eq] at sN sF ap;simp only[abm,aaW,abS,or_false,forall_eq_or_imp,forall_eq] at uN uF;obtain⟨s1,s2,s3⟩:=sN;obtain⟨t1,t2,t3⟩:=sF;obtain⟨⟨a1,a2,a3⟩,⟨a4,a5,a6⟩,a7,a8,a9⟩:=ap;obtain⟨⟨u1,u2⟩,u3,-⟩:=uN;obtain⟨⟨v1,v2⟩,v3,-⟩:=uF;refine⟨?_,uj ?_⟩
 .simp only[aaW,abS,or_false,forall_eq_or_imp,forall_eq]
  refine⟨?_,?_,?_,?_,?_,?_,?_,?_,?_⟩<;>exact Ja (by assumption) (by assumption)
 .simp only[abm,aaW,abS,or_false,forall_eq_or_imp,forall_eq,false_implies,implies_true,List.Pairwise.nil,and_true]
  refine⟨⟨?_,?_,?_,?_,?_,?_,?_,?_⟩,⟨?_,?_,?_,?_,?_,?_,?_⟩,⟨?_,?_,?_,?_,?_,?_⟩,⟨?_,?_,?_,?_,?_⟩,⟨?_,?_,?_,?_⟩,⟨?_,?_,?_⟩,⟨?_,?_⟩,?_⟩<;>exact I9 (by omega) (by omega)
end Ku
end
section
open Go.RowKit Go.Sort Go.Maps
namespace Ku
open Classical in
noncomputable def Kk (R:List (List Int)) (kd:Int) (br:List Int) (ps:List (Int×Int)):Option (Int×List Int×List (List Int)):=if All R ps then some (kd,br,ps.map (pathOf R)) else none
open Classical in
noncomputable def gJ (R:List (List Int)) (es:List (Int×Int)) (m:Nat):Option (Int×List Int×List (List Int)):=
 if (bz es m).length=5/\(∀v∈bz es m,dg es v=4) then Kk R 1 (ZL (bz es m)) (bX (ZL (bz es m)) 5)
 else if (bz es m).length=6/\(∀v∈bz es m,dg es v=3)/\(aS R (ZL (bz es m)) 6).length=3 then Kk R 2 (aS R (ZL (bz es m)) 6++bZ R (ZL (bz es m)) 6) (cout (aS R (ZL (bz es m)) 6) (bZ R (ZL (bz es m)) 6) 3)
 else none
def Rb (o:Option (Int×List Int×List (List Int))) (w:World) (e:Ending) (w':World):Prop:=
 match o with
 |none=>e= .returned (.tuple #[jO,.bool false,.int .i64 0])
 |some (kd,br,ps)=>∃bv pv vs,e= .returned (.tuple #[.agg #[.int .i64 kd,bv,pv],.bool true,.int .i64 0])/\av w' w.heap.size bv br/\ay w' w.heap.size pv vs ps/\∀b,bv.ownBlock=some b->pv.ownBlock≠some b/\¬bY vs b
def NG (n:Int) (es:List (Int×Int)) (w:World) (e:Ending) (w':World):Prop:=
 ((Si.valid n es=false/\e= .returned (.tuple #[jO,.bool false,.int .i64 1]))\/∃(m:Nat) (hv:Si.Val n es),n=(m:Int)/\Rb (gJ (rows es hv es.length) es m) w e w')/\Below w.heap.size w w'
theorem DW {B:Nat} {cs:List Value} {R:List (List Int)} {kd:Int} {bv:Value} {ps:List (Int×Int)} {w5 w6 w X:World} {e5:Ending} (hk:jW B cs R kd bv ps w5 e5 w6) {br:List Int} (vn:av w6 w.heap.size bv br) (hB:w.heap.size<=B) {c1 c2:Nat}
 (hX:∀b,b≠c1->b≠c2->X.heap[b]? =w6.heap[b]?) (hc:∀b,(bv.ownBlock=some b\/bY cs b\/w5.heap.size<=b)->b≠c1/\b≠c2) (hap:∀(b:Nat) (k v pv r:Value),bv.ownBlock=some b->e5= .returned (.tuple #[.agg #[k,v,pv],r])->pv.ownBlock≠some b/\¬bY cs b) {k v p r:Value} (he:e5= .returned (.tuple #[.agg #[k,v,p],r])):
 Rb (Kk R kd br ps) w (.returned (.tuple #[.agg #[k,v,p],r,.int .i64 0])) X:=by
 unfold Kk;rcases hk.1 with ⟨h1,h2⟩|⟨h1,pv,vs,h2,h3,h4,h5⟩
 .rw[if_neg h1]
  rw[h2] at he;unfold jO at he;cases he;rfl
 .rw[if_pos h1]
  have QH:=hap;rw[h2] at he QH;cases he;refine⟨_,_,vs,rfl,vn.same fun g hg _=> ?_,(h3.lower hB).kept fun b hb _=> ?_,fun b hb=> ?_⟩
  .obtain⟨a1,a2⟩:=hc g (.inl hg)
   exact hX g a1 a2
  .obtain⟨a1,a2⟩:=hc b (by
    rcases hb with hb|hb
    .exact .inr (.inr (h4 b hb))
    .exact .inr (.inl (h5 b hb)))
   exact hX b a1 a2
  .obtain⟨a1,a2⟩:=QH b _ _ _ _ hb rfl
   exact⟨a1,fun h=>a2 (h5 b h)⟩
theorem kK {u:World} {k8:Nat} (x y z:Value) (b:Nat) (hb:b≠k8):(((u.setCell ⟨k8,0,none⟩ x).setCell ⟨k8,1,none⟩ y).setCell ⟨k8,2,none⟩ z).heap[b]? =u.heap[b]? :=by
 rw[heap_setCell_other _ ⟨k8,2,none⟩ b _ hb,heap_setCell_other _ ⟨k8,1,none⟩ b _ hb,heap_setCell_other _ ⟨k8,0,none⟩ b _ hb]
theorem OP {R:List (List Int)} {es:List (Int×Int)} {m:Nat} (h:(bz es m).length=5) (hd:∀v∈bz es m,dg es v=4):gJ R es m=Kk R 1 (ZL (bz es m)) (bX (ZL (bz es m)) 5):=if_pos ⟨h,hd⟩
theorem OO {R:List (List Int)} {es:List (Int×Int)} {m:Nat} (h:(bz es m).length=6) (hd:∀v∈bz es m,dg es v=3) (h3:(aS R (ZL (bz es m)) 6).length=3):gJ R es m=Kk R 2 (aS R (ZL (bz es m)) 6++bZ R (ZL (bz es m)) 6) (cout (aS R (ZL (bz es m)) 6) (bZ R (ZL (bz es m)) 6) 3):=by
 unfold gJ;rw[if_neg (by omega),if_pos ⟨h,hd,h3⟩]
theorem Dp {R:List (List Int)} {es:List (Int×Int)} {m:Nat} (h5:¬((bz es m).length=5/\∀v∈bz es m,dg es v=4)) (h6:¬((bz es m).length=6/\(∀v∈bz es m,dg es v=3)/\(aS R (ZL (bz es m)) 6).length=3)):gJ R es m=none:=by
 unfold gJ;rw[if_neg h5,if_neg h6]
theorem wC (P:Prop):∃r:Bool,r=true↔P:=by
 by_cases h:P
 .exact⟨true,by simp[h]⟩
 .exact⟨false,by simp[h]⟩
end Ku
end
end Go.Proofs.YtdbjpbjocmcpkaaGreatDoor
