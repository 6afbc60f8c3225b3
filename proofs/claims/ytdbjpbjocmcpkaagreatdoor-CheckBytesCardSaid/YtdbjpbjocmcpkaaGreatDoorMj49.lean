import Derived.Test.YtdbjpbjocmcpkaaGreatDoorMj37
import Derived.Test.YtdbjpbjocmcpkaaGreatDoorMj27
set_option maxHeartbeats 16000000
set_option maxRecDepth 100000
namespace Go.Proofs.YtdbjpbjocmcpkaaGreatDoor
section
open Go.Proofs.Tryz
open Go.RowKit Go.Sort
theorem NN (h:Nat) (w:World) (hh:h<=4611686018427387904):
 Calls prog 201 #[.int .i64 (h:Int)] w fun e w'=>e= .returned (.int .i64 (Cs.twin h:Int))/\Below w.heap.size w w':=by
 have hj0:(0:Int)<=(h:Int):=by omega
 have HB:=ζ (aaG w.heap.size w);obtain⟨t,ht⟩:∃t,t=Cs.twin h:=⟨_,rfl⟩;rw[<-ht];rcases abJ h with h2|h2
 .have hm1:(h:Int).tmod 2=0:=by rw[abR hj0];omega
  have hm2:(h:Int)%2=0:=by omega
  have he:t=h+1:=by rw[ht];unfold Cs.twin;rw[if_pos h2]
  have q1:IntKind.i64.wrap ((h:Int)+1)=(t:Int):=by rw[aaK];omega
  have q2:(h:Int)+1=(t:Int):=by omega
  clear ht he h2;go_enter func201,ntmps201;go_wp2;go_ret;exact⟨rfl,HB.out⟩
 .have hm1:(h:Int).tmod 2=1:=by rw[abR hj0];omega
  have hm2:(h:Int)%2=1:=by omega
  have he:t+1=h:=by rw[ht];unfold Cs.twin;rw[if_neg (by omega)];omega
  have q1:IntKind.i64.wrap ((h:Int)-1)=(t:Int):=by rw[aaK];omega
  have q2:(h:Int)-1=(t:Int):=by omega
  clear ht he h2;go_enter func201,ntmps201;go_wp2;go_ret;exact⟨rfl,HB.out⟩
namespace Fa
def iE (f:Nat->Nat) (k:Nat):List Int:=(List.range k).map fun h=>(f h:Int)
theorem rU (f:Nat->Nat) (k:Nat):(iE f k).length=k:=by simp[iE]
theorem NI {f:Nat->Nat} {k h:Nat} (hh:h<k):(iE f k)[h]? =some (f h:Int):=by
 unfold iE;rw[abj,acT hh];rfl
theorem Ij (f:Nat->Nat) (k:Nat):iE f (k+1)=iE f k++[(f k:Int)]:=by
 unfold iE;rw[acL,abt];rfl
theorem TJ {n:Nat} {f:Nat->Nat} (hp:kO n f) {h p j:Nat} (hh:h<n) (hl:wL f n h p) (hj:j<p):Pl.it f j h∉way f h j:=fun hc=>by
 unfold way at hc;obtain⟨i,hi,e⟩:=abO.1 hc;rw[abq] at hi;refine hl.first (j-i) (by omega) (by omega) ?_
 have e2:Pl.it f j h=Pl.it f i (Pl.it f (j-i) h):=by rw[<-Pl.eP];congr 1;omega
 rw[e2] at e;exact(Pl.Ca hp.lt hp.inj i hh (Pl.nr hp.lt _ hh) e).symm
end Fa
def af1 (c:Int) (L:List Int) (w:World) (e:Ending) (w':World):Prop:=
 Below w.heap.size w w'/\∃v,e= .returned (.tuple #[v,.int .i64 c])/\((c≠0/\v= .slice none 0 0)\/(c=0/\ak w' w.heap.size v L))
theorem NP (n:Int) (ao:Option Addr) (ca:Nat) (es:List (Int×Int)) (xo:Option Addr) (xc:Nat) (ls:List (List Int)) (w:World) (he:ah w ao es) (hl:es.length<=4611686018427387904) (hx:bH w xo ls):
 Calls prog 135 #[aB n ao es.length ca,.slice xo ls.length xc] w (af1 (Ro.check n es ls).2 (Fa.iE (Fa.ph es ls) (2*es.length)) w):=by
 have hb0:Below w.heap.size w (w.alloc (.cells #[.int .i64 n,.slice ao es.length ca] 24)):=(aaG _ _).alloc (aaF _) _;have HN:=ζ (IB n ao ca es xo xc ls _ (he.later hb0) hl (hx.later hb0));have aI:=ζ hb0;unfold aB at HN ⊢;obtain⟨C,hC⟩:∃C,C=(Ro.check n es ls).2:=⟨_,rfl⟩;have HC:=ζ hC;rw[<-hC];clear he hx hb0 hC;go_enter func135,ntmps135;go_wp2_with (go_at_call 200;refine HN.out.mono ?_;intro e w1 hp;obtain⟨hb1,⟨hc,rfl⟩|⟨hc,g,rfl,hg,hi⟩⟩:=hp<;>refine aaI ?_)
 all_goals refine ζ ?_
 .have HB:=ζ (aI.out.trans (hb1.mono aI.out.size))
  rw[<-HC.out] at hc ⊢;have lV:=ζ hc;clear hc hb1;go_wp2;refine wp_loop_rounds 1 ?_;rw[rounds_succ];go_wp2;go_ret2;exact⟨HB.out,_,rfl,.inl ⟨lV.out,rfl⟩⟩
 .have hr:=Ro.ji.1 hc
  have hv:=Si.aL.1 hr.val;obtain⟨N,rfl⟩:∃N:Nat,n=(N:Int):=⟨n.toNat,by have:=hv.lo;omega⟩;have hst:=Gl hc hi;have bV:=hst.few;have HST:=ζ hst;have HB:=ζ (aI.out.trans (hb1.mono aI.out.size));have hs1:=HB.out.size;rw[<-HC.out] at hc;have lV:=ζ hc;obtain⟨M,hM⟩:∃M,M=2*es.length:=⟨_,rfl⟩;rw[<-hM] at HST bV ⊢;have hev:=HST.out.even;have q9:=ζ hM;clear hc hb1 hg hi hr hv hst hM;go_wp2;go_loopw [8,9] (fun c8 c9 wr=>∃k:Nat,k<=M/\c9= .int .i64 (k:Int)/\ak wr w1.heap.size c8 (Fa.iE (Fa.ph es ls) k)/\Below w1.heap.size w1 wr) (fun _ c9 _=>M-(intOf c9).toNat)
  case atStart=>exact⟨0,aaR _,rfl,ak.nil _ _,aaG _ _⟩
  case round=>
   obtain⟨k,hk,rfl,hO,hb⟩:=hrel;obtain⟨W0,rfl⟩:∃W0,W0=wr:=⟨_,rfl⟩;obtain⟨uo,uc,UJ,-⟩:=hO.form;rw[Fa.rU] at UJ;subst UJ;have HO:=ζ hO;have yZ:=ζ hb;have hwk:IntKind.i64.wrap ((k:Int)+1)=(k:Int)+1:=by rw[aaK];omega
   by_cases hlt:k<M
   .have aP:(k:Int)<(M:Int):=by omega
    have hk0:(0:Int)<=(k:Int):=by omega
    have HT:=ζ (NN k W0 (by omega));have FB:Cs.twin k<M:=by
     have:=Cs.fC (i:=k) (m:=M/2) (by omega);omega
    have hcl:=fun U (hU:Below w1.heap.size w1 U)=>(HST.out.later hU).cell k hlt
    obtain⟨t,ht⟩:∃t,t=Cs.twin k:=⟨_,rfl⟩;rw[<-ht] at HT FB;simp only[<-ht] at hcl;have tN:=ζ hcl;have ti0:(0:Int)<=(t:Int):=by omega
    have ti1:(t:Int)<(M:Int):=by omega
    clear hO hb ht hcl;go_wp2_with (go_at_call 201;refine HT.out.mono ?_;rintro e w2 ⟨rfl,hb2⟩;refine aaI ?_);refine ζ ?_;have aA:=ζ (yZ.out.trans (hb2.mono yZ.out.size));have mD:=ζ (HO.out.later hb2);have hs2:=aA.out.size;have hcc:=tN.out w2 aA.out;clear hb2;go_wp2_with (at_builtin;refine bu rfl _ _ rfl w2 w1.heap.size _ (Fa.iE (Fa.ph es ls) k) (Fa.ph es ls k:Int) mD.out hs2 (by rw[Fa.rU];omega) rfl rfl ?_;refine aaI ?_);refine ζ ?_;intro v' w3 pQ hg3 gU hb3;have tI:Hid (ak w3 w1.heap.size v' (Fa.iE (Fa.ph es ls) (k+1))):=by
     rw[Fa.Ij];exact pQ
    have aK:=ζ (aA.out.trans hb3);clear pQ hg3 gU hb3 hcc;go_wp2;go_roundw
    case rel=>exact⟨k+1,by omega,by go_num,tI.out,aK.out⟩
    case measure=>simp[intOf];omega
   .have hd:¬(k:Int)<(M:Int):=by omega
    have hkM:k=M:=by omega
    have HOE:Hid (ak W0 w.heap.size (.slice uo k uc) (Fa.iE (Fa.ph es ls) (2*es.length))):=by
     have h1:=hO.lower hs1;rw[hkM] at h1 ⊢;rw[<-q9.out];exact h1
    clear hO hb hkM;go_wp2;go_ret2;exact⟨HB.out.trans (yZ.out.mono hs1),.slice uo k uc,by rw[lV.out];rfl,.inr ⟨lV.out,HOE.out⟩⟩
end
section
open Go.Proofs.Tryz
open Go.RowKit Go.Sort
theorem NV (n:Int) (ao:Option Addr) (ca:Nat) (es:List (Int×Int)) (xo:Option Addr) (xc:Nat) (ls:List (List Int)) (w:World) (he:ah w ao es) (hl:es.length<=4611686018427387904) (hx:bH w xo ls):
 Calls prog 88 #[aB n ao es.length ca,.slice xo ls.length xc] w (aht (Ro.check n es ls).2 (Fa.all es ls) w):=by
 obtain⟨i0,nS,hz0,hz1,hz2⟩:=info_parts Tryz.pO;have hb0:Below w.heap.size w (w.alloc (.cells #[.int .i64 n,.slice ao es.length ca] 24)):=(aaG _ _).alloc (aaF _) _;have HN:=ζ (NP n ao ca es xo xc ls _ (he.later hb0) hl (hx.later hb0));have aI:=ζ hb0;unfold aB at HN ⊢;obtain⟨C,hC⟩:∃C,C=(Ro.check n es ls).2:=⟨_,rfl⟩;have HC:=ζ hC;rw[<-hC] at HN ⊢;clear he hx hb0 hC;go_enter func88,ntmps88;go_wp2_with (go_at_call 135;refine HN.out.mono ?_;intro e w1 hp;obtain⟨hb1,v,rfl,⟨hc,rfl⟩|⟨hc,U0⟩⟩:=hp<;>refine aaI ?_)
 all_goals refine ζ ?_
 .have HB:=ζ (aI.out.trans (hb1.mono aI.out.size))
  have hcb:(C != 0)=true:=by simpa using hc
  have lV:=ζ hc;clear hc hb1;go_wp2;go_ret2;exact⟨HB.out,.inl ⟨lV.out,rfl⟩⟩
 .have hc':=hc
  rw[HC.out] at hc';have hr:=Ro.ji.1 hc';have hv:=Si.aL.1 hr.val;obtain⟨N,rfl⟩:∃N:Nat,n=(N:Int):=⟨n.toNat,by have:=hv.lo;omega⟩;have UY:=Fa.xB hr;obtain⟨m,ho⟩:=Fa.og UY;have bV:=hv.few;have Bq:=ζ UY;have HO:=ζ ho;have HB:=ζ (aI.out.trans (hb1.mono aI.out.size));have hs1:=HB.out.size;obtain⟨so,sc,oM,hsa,hsb⟩:=U0.form;rw[Fa.rU] at oM;subst oM;have lV:=ζ hc;subst hc;obtain⟨M,hM⟩:∃M,M=2*es.length:=⟨_,rfl⟩;obtain⟨f,hf⟩:∃f,f=Fa.ph es ls:=⟨_,rfl⟩;have jc:Hid (Fa.all es ls=(Fa.aR f M M).map Fa.zl):=by rw[hf,hM];rfl
  rw[<-hM,<-hf] at hsa Bq HO;rw[<-hM];have hM8:M<=8388608:=by omega
  have hmk:∀W,(Instr.makeSlice 237 (.int .i64 (M:Int)) (.int .i64 (M:Int))).run prog W= .ok (.slice (some ⟨W.heap.size,0,none⟩) M M) (W.alloc (.cells (madeCells #[.bool false] M) 4)):=fun W=>by
   have:=run_make (P:=prog) W 237 4 i0 (.bool false) Tryz.underlying237 nS hz0 .i64 .i64 (M:Int) (M:Int) (by omega) (acq _) (by rw[hz2];omega) (by omega);rw[this,hz1];simp[Value.cells]
  obtain⟨w2,hw2⟩:∃w2,w2=w1.alloc (.cells (madeCells #[.bool false] M) 4):=⟨_,rfl⟩;have hb2:Below w1.heap.size w1 w2:=by rw[hw2];exact(aaG _ _).alloc (aaF _) _
  have hs2:w1.heap.size<w2.heap.size:=by rw[hw2];simp
  have F9:Hid (aG w2 w1.heap.size M (fun x=>decide (m x<0))):=by rw[hw2];exact(k9 rfl M).iX fun i _=>by simp
  have aA:=ζ (HB.out.trans (hb2.mono HB.out.size));have tF:Hid (∀U,Below w1.heap.size w2 U->aV U so (Fa.iE f M)):=fun U hU=>hsa.low (fun x hx=>(hsb x hx).2) (hb2.trans hU)
  have t0:((0:Int) != 0)=false:=rfl;have FX:=ζ hw2;clear hb1 U0 hsa hsb hr hv UY ho hb2 hM hf hw2 bV;go_wp2;rw[<-FX.out];clear hmk FX;go_loopw [9,10] (fun c9 c10 wr=>∃(k:Nat) (vs:List Value),k<=M/\c10= .int .i64 (k:Int)/\ay wr w2.heap.size c9 vs ((Fa.aR f M k).map Fa.zl)/\aG wr w1.heap.size M (fun x=>decide (m x<k))/\Below w1.heap.size w2 wr) (fun _ c10 _=>M-(intOf c10).toNat)
  case atStart=>exact⟨0,[],aaR _,rfl,ay.nil _ _,F9.out,aaG _ _⟩
  case round=>
   obtain⟨k,vs,hk,rfl,hR,hI,hb⟩:=hrel;obtain⟨W0,rfl⟩:∃W0,W0=wr:=⟨_,rfl⟩;obtain⟨uo,q,uc,rfl⟩:∃a q c,u9= .slice a q c:=by
    obtain⟨a,c,e⟩:=bG hR;exact⟨_,_,_,e⟩
   have HR:=ζ hR;have HI:=ζ hI;have yZ:=ζ hb;have hsz:=hb.size;have hwk:IntKind.i64.wrap ((k:Int)+1)=(k:Int)+1:=by rw[aaK];omega
   by_cases hlt:k<M
   .have aP:(k:Int)<(M:Int):=by omega
    have hk0:(0:Int)<=(k:Int):=by omega
    have hc:=hI.cell hlt;have hle:=HO.out.norm.le k hlt;by_cases e:m k=k
    .have e1:decide (m k<k)=false:=by simp[e]
     rw[e1] at hc;have HE:=ζ e;obtain⟨p,hp⟩:=Fa.xP Bq.out hlt;have HP:=ζ hp;have aeK:=hp.le;have nN:=ζ (fun i=>Pl.nr Bq.out.lt i hlt);have Nk:Hid (∀i,m (Pl.it f i k)=k):=fun i=>by
      have:=(HO.out.iff k (Pl.it f i k) hlt (nN.out i)).2 ⟨i,rfl⟩;rw[<-this,e]
     clear hR hI hb e e1 hle hp;go_wp2;clear hc;go_loopw [11,12] (fun c11 c12 wr=>∃j:Nat,j<=p/\c12= .int .i64 (Pl.it f j k:Int)/\ak wr W0.heap.size c11 (Fa.zl (Fa.way f k j))/\aG wr w1.heap.size M (fun y=>decide (m y<k)||(Fa.way f k j).contains y)/\ay wr w2.heap.size (.slice uo q uc) vs ((Fa.aR f M k).map Fa.zl)/\Below w1.heap.size w2 wr/\W0.heap.size<=wr.heap.size) (fun c11 _ _=>p-vQ c11)
     case atStart=>exact⟨0,aaR _,rfl,ak.nil _ _,HI.out.iX fun i _=>by simp[Fa.way],HR.out,yZ.out,aaF _⟩
     case round=>
      obtain⟨j,hj,rfl,hO,hI,hR,hb,UO⟩:=hrel;obtain⟨W1,rfl⟩:∃W1,W1=wr:=⟨_,rfl⟩;obtain⟨fo,fc,qH,-⟩:=hO.form;rw[Fa.l7,Fa.jG] at qH;subst qH;obtain⟨y,hy⟩:∃y,y=Pl.it f j k:=⟨_,rfl⟩;have qB:=nN.out j;have Ye:=Nk.out j;rw[<-hy] at qB Ye ⊢;have Lv:(y:Int)<(M:Int):=by omega
      have hy0:(0:Int)<=(y:Int):=by omega
      have BZ:=ζ hO;have Y8:=ζ hI;have jF:=ζ hR;have aD:=ζ hb;have Vt:=hI.cell qB;have hd1:decide (m y<k)=false:=by simp[Ye]
      rw[hd1,Bool.false_or] at Vt;by_cases hjp:j<p
      .have hnm:=Fa.TJ Bq.out hlt HP.out hjp
       rw[<-hy] at hnm;have hct:(Fa.way f k j).contains y=false:=by
        cases hcon:(Fa.way f k j).contains y with
        |false=>rfl
        |true=>exact absurd (ab9.1 hcon) hnm
       rw[hct] at Vt;have hfr:=hI.free y;obtain⟨W2,hW2⟩:∃W2,W2=W1.setCell ⟨w1.heap.size,y,none⟩ (.bool true):=⟨_,rfl⟩;have tL:Hid (aG W2 w1.heap.size M (fun z=>decide (m z<k)||(Fa.way f k (j+1)).contains z)):=by
        rw[hW2];refine(hI.set y true).iX fun z _=> ?_
        rw[Fa.zh,<-hy];by_cases ez:z=y
        .subst ez
         rw[Co.fQ];simp
        .rw[Co.dS _ ez]
         simp[ez]
       have mD:Hid (ak W2 W0.heap.size (.slice fo j fc) (Fa.zl (Fa.way f k j))):=by
        rw[hW2];exact hO.same fun g' hg _=>fJ (fun e=>by have:=(aaO hO g' hg).1;omega) _
       have nT:Hid (ay W2 w2.heap.size (.slice uo q uc) vs ((Fa.aR f M k).map Fa.zl)):=by
        rw[hW2];refine hR.kept fun b' hb' _=>fJ (fun e=> ?_) _
        have:w2.heap.size<=b':=by
         rcases hb' with hb'|⟨u,z,hz,hzb⟩
         .exact(aaO hR.outer b' hb').1
         .obtain⟨l,hl⟩:=hR.at hz
          exact(aaO (hR.row u z l hz hl) b' hzb).1
        omega
       have ahn:Hid (Below w1.heap.size w2 W2):=by rw[hW2];exact hb.setCell (aaF _) _
       have aev:W0.heap.size<=W2.heap.size:=by rw[hW2];simpa using UO
       have Wj:=ζ hW2;have HSZ:Hid (W2.heap.size=W1.heap.size):=by rw[hW2];exact ζ (by simp)
       have HY:=ζ hy;clear hO hI hR hb hnm hct hd1 Ye hy hW2;go_wp2_with (at_builtin;rw[<-Wj.out];refine bu rfl _ _ rfl W2 W0.heap.size _ (Fa.zl (Fa.way f k j)) (y:Int) mD.out aev (by rw[Fa.l7,Fa.jG];omega) rfl (by rw[HSZ.out];rfl) ?_;refine aaI ?_);refine ζ ?_;intro v' w3 pQ hg3 gU hb3;have tI:Hid (ak w3 W0.heap.size v' (Fa.zl (Fa.way f k (j+1)))):=by
        rw[Fa.zh,<-HY.out];unfold Fa.zl;rw[abt];exact pQ
       have hs3:=hb3.size;have jW:Hid (aG w3 w1.heap.size M (fun z=>decide (m z<k)||(Fa.way f k (j+1)).contains z)):=tL.out.same (hb3.block _ (by omega));have jl:Hid (ay w3 w2.heap.size (.slice uo q uc) vs ((Fa.aR f M k).map Fa.zl)):=nT.out.kept fun b' hb' _=>hb3.block b' (by
        rcases hb' with hb'|⟨u,z,hz,hzb⟩
        .exact(aaO HR.out.outer b' hb').2
        .obtain⟨l,hl⟩:=HR.out.at hz
         exact(aaO (HR.out.row u z l hz hl) b' hzb).2)
       have aK:=ζ (ahn.out.trans (hb3.mono (by omega)));obtain⟨bs,os,oM,hcs⟩:=tF.out w3 aK.out y _ (Fa.NI qB);subst oM;obtain⟨vo,vc,cG,-⟩:=tI.out.form;rw[Fa.l7,Fa.jG] at cG;subst cG;have Vo:f y=Pl.it f (j+1) k:=by rw[Pl.lg,HY.out]
       rw[Vo] at hcs;have aeu:W0.heap.size<=w3.heap.size:=by omega
       have hj1:j+1<=p:=by omega
       clear pQ hg3 gU hb3 Vo;go_wp2;go_roundw
       case rel=>exact⟨j+1,hj1,rfl,tI.out,jW.out,jl.out,aK.out,aeu⟩
       case measure=>simp[vQ];omega
      .have Qy:j=p:=by omega
       have hct:(Fa.way f k j).contains y=true:=by
        rw[ab9,Qy];rw[Qy,HP.out.back] at hy;rw[hy];exact(Fa.KV HP.out).2 ⟨0,rfl⟩
       rw[hct] at Vt;have HFW:Hid (Fa.way f k j=Fa.gZ f M k):=by
        show Fa.way f k j=Fa.gZ f M k;rw[Fa.pU HP.out,Qy]
       have jW:Hid (aG W1 w1.heap.size M (fun x=>decide (m x<k+1))):=by
        refine hI.iX fun z hz=> ?_
        rw[HFW.out,ace];simp only[ab6,decide_eq_true_iff,ab9];rw[Fa.ud Bq.out HO.out hlt,HE.out];omega
       have kP:Hid (∀b',((Value.slice uo q uc).ownBlock=some b'\/cS vs b')->b'<W0.heap.size):=fun b' hb'=>by
        rcases hb' with hb'|⟨u,z,hz,hzb⟩
        .exact(aaO HR.out.outer b' hb').2
        .obtain⟨l,hl⟩:=HR.out.at hz
         exact(aaO (HR.out.row u z l hz hl) b' hzb).2
       have HOW:Hid (∀b',(Value.slice fo j fc).ownBlock=some b'->W0.heap.size<=b'):=fun b' hb'=>(aaO hO b' hb').1
       have hfl:((Fa.aR f M k).map Fa.zl).length<=8388608:=by
        rw[aa3,Fa.mz Bq.out HO.out hk];have:=Co.bM (Co.fix m) k;omega
       clear hO hI hR hb hct hd1 Ye hy Qy;go_wp2_with (at_builtin;refine pg rfl _ _ 25 Tryz.underlying25 rfl W1 w2.heap.size (.slice uo q uc) vs ((Fa.aR f M k).map Fa.zl) (.slice fo j fc) (Fa.zl (Fa.way f k j)) jF.out (BZ.out.lower (by omega)) (fun u z b hz hzb e=>by have h1:=kP.out b (.inr ⟨u,z,hz,hzb⟩);have h2:=HOW.out b e;omega) (fun b hb e=>by have h1:=kP.out b (.inl hb);have h2:=HOW.out b e;omega) (by omega) (by omega) rfl rfl ?_;refine aaI ?_);refine ζ ?_;intro v4 w4 hr4 hk4 hv4 hb4;have hbd:∀b',(Value.slice uo q uc).ownBlock=some b'->w2.heap.size<=b':=fun b' hb'=>(aaO jF.out.outer b' hb').1
       have Ad:Hid (ay w4 w2.heap.size v4 (vs++[.slice fo j fc]) ((Fa.aR f M (k+1)).map Fa.zl)):=by
        rw[Fa.qP Bq.out HO.out hlt HE.out,abt];rw[HFW.out] at hr4;exact hr4
       have PR:Hid (aG w4 w1.heap.size M (fun x=>decide (m x<k+1))):=jW.out.same (hk4 _ jW.out.lt (fun e=>by have:=hbd _ e;omega));have cZ:=ζ (aD.out.trans (hb4.mono (by omega)));clear hr4 hk4 hv4 hb4 hbd;go_wp2;go_roundw
       case rel=>exact⟨k+1,_,by omega,by go_num,Ad.out,PR.out,cZ.out⟩
       case measure=>simp[intOf];omega
    .have e1:decide (m k<k)=true:=by simp;omega
     rw[e1] at hc;have jW:Hid (aG W0 w1.heap.size M (fun x=>decide (m x<k+1))):=by
      refine hI.iX fun y hy=> ?_
      have:m y≠k:=fun h=>by
       have:=HO.out.norm.idem y hy;rw[h] at this;exact e this
      rw[ace,decide_eq_true_iff,decide_eq_true_iff];omega
     have jl:Hid (ay W0 w2.heap.size (.slice uo q uc) vs ((Fa.aR f M (k+1)).map Fa.zl)):=by
      rw[Fa.sP Bq.out HO.out hlt e];exact hR
     clear hR hI hb e e1 hle;go_wp2;go_roundw
     case rel=>exact⟨k+1,vs,by omega,by go_num,jl.out,jW.out,yZ.out⟩
     case measure=>simp[intOf];omega
   .have hd:¬(k:Int)<(M:Int):=by omega
    have hkn:k=M:=by omega
    have jl:Hid (ay W0 w.heap.size (.slice uo q uc) vs (Fa.all es ls)):=by
     have h3:ay W0 w.heap.size (.slice uo q uc) vs ((Fa.aR f M k).map Fa.zl):=hR.lower (by omega);rw[hkn] at h3;rw[jc.out];exact h3
    have b9:=ζ (aA.out.trans (hb.mono hs1));clear hR hI hb hkn;go_wp2;go_ret2;exact⟨b9.out,.inr ⟨rfl,_,vs,rfl,jl.out⟩⟩
end
section
open Go.Proofs.Tryz
open Go.RowKit Go.Sort
theorem Co.Oy (k:Nat) (f:Nat->Nat):Co.ints (k+1) f=Co.ints k f++[(f k:Int)]:=by
 unfold Co.ints;rw[acL,abt];rfl
def Tl (n:Int) (w:World) (e:Ending) (w':World):Prop:=
 ((∃(k:Nat) (v:Value),n=(k:Int)/\k<=1048576/\e= .returned (.tuple #[v,.int .i64 0])/\ak w' w.heap.size v (Co.ints k (fun x=>x)))\/((n<0\/1048576<n)/\e= .returned (.tuple #[.slice none 0 0,.int .i64 2])))/\Below w.heap.size w w'
theorem Rx (n:Int) (w:World):Calls prog 136 #[.int .i64 n] w (Tl n w):=by
 obtain⟨i0,hi,hz0,hz1,hz2⟩:=info_parts Tryz.cL;by_cases h1:n<0
 .go_enter func136,ntmps136
  go_wp2;go_ret2;exact⟨.inr ⟨.inl h1,rfl⟩,aaG _ _⟩
 by_cases h2:1048576<n
 .go_enter func136,ntmps136
  go_wp2;go_ret2;exact⟨.inr ⟨.inr h2,rfl⟩,aaG _ _⟩
 obtain⟨k,rfl⟩:∃k:Nat,n=(k:Int):=⟨n.toNat,by omega⟩;have hkn:k<=1048576:=by omega
 go_enter func136,ntmps136;go_wp2;go_loopw [4,5] (fun s cv wr=>∃j:Nat,j<=k/\cv= .int .i64 (j:Int)/\ak wr w.heap.size s (Co.ints j (fun x=>x))/\Below w.heap.size w wr) (fun _ cv _=>k-(intOf cv).toNat)
 case atStart=>exact⟨0,aaR _,rfl,ak.nil _ _,aaG _ _⟩
 case round=>
  obtain⟨j,hj,rfl,ho,hb⟩:=hrel;obtain⟨ao,ca,hs,-,-⟩:=ho.form;rw[Co.bw] at hs;by_cases hlt:j<k
  .have aP:(j:Int)<(k:Int):=by omega
   unfold ak at ho;rw[Co.bw] at ho;have HO:=ζ ho;have HB:=ζ hb;have hsb:=hb.size;have Sv:∀b,(Value.slice ao j ca).ownBlock=some b->w.heap.size<=b:=fun b hbk=>by
    rw[hs] at ho;exact(aaO ho b hbk).1
   have HOB:=ζ Sv;subst hs;clear ho hb Sv;go_wp2_with (at_builtin;refine wpList_append_own_at _ rfl _ _ 55 rfl w.heap.size 3 i0 (.int .i64 0) 1 8 Tryz.underlying55 hi hz0 hz1 hz2 rfl (by decide) _ _ _ rfl (abv HO.out _) ⟨wr.heap.size,0,none⟩ 1 1 [.int .i64 (j:Int)] rfl rfl (cell_one_new _ _ _) (by simp[Value.oneCell']) (by unfold maxLen;omega) (by omega) (by simp;omega) ?_;refine aaI ?_);refine ζ ?_;intro v1 w1 hown1 Qz _ afo;obtain⟨g1,c1,Dv⟩:=GF hown1;subst Dv;have BZ:Hid (ak w1 w.heap.size (.slice (some ⟨g1,0,none⟩) (j+1) c1) (Co.ints (j+1) (fun x=>x))):=by
    show ak _ _ _ _;unfold ak;rw[Co.bw,Co.Oy,abt];exact hown1
   have aD:=ζ ((HB.out.alloc hsb _).grown Qz (by simp;omega) HOB.out);clear hown1 Qz afo;go_wp2;go_roundw
   case rel=>exact⟨j+1,by omega,by go_num,BZ.out,aD.out⟩
   case measure=>simp[intOf];omega
  .have hd:¬((j:Int)<(k:Int)):=by omega
   obtain rfl:j=k:=by omega
   have HO:=ζ ho;have HB:=ζ hb;subst hs;clear ho hb;go_wp2;go_ret2;exact⟨.inl ⟨j,_,rfl,hkn,rfl,HO.out⟩,HB.out⟩
end
section
open Go.Proofs.Tryz
open Go.RowKit Go.Sort
namespace Co
def sumTo (f:Nat->Nat):Nat->Nat
 |0=>0
 |k+1=>sumTo f k+f k
theorem qm {f g:Nat->Nat}:∀k,(∀i,i<k->f i=g i)->sumTo f k=sumTo g k
 |0,_=>rfl
 |k+1,h=>by unfold sumTo;rw[qm k (fun i hi=>h i (by omega)),h k (by omega)]
theorem sumTo_upd {f:Nat->Nat} {x y:Nat} (hy:y<f x):∀k,x<k->sumTo (upd f x y) k<sumTo f k
 |0,h=>by omega
 |k+1,h=>by
  unfold sumTo;by_cases e:x=k
  .subst e
   rw[upd_same,qm (f:=upd f x y) (g:=f) x (fun i hi=>aX _ (by omega))];omega
  .have:=sumTo_upd hy k (by omega)
   rw[aX _ (by omega)];omega
structure Down (n:Nat) (es:List (Int×Int)) (F:Nat->Nat):Prop where
 le:∀x,x<n->F x<=x
 sub:∀f:Nat->Nat,jO n es f->∀x,x<n->f (F x)=f x
theorem Down.id (n:Nat) (es:List (Int×Int)):Down n es (fun x=>x):=⟨fun _ _=>aaF _,fun _ _ _ _=>rfl⟩
theorem Down.step {n:Nat} {es:List (Int×Int)} {F:Nat->Nat} (h:Down n es F) {u v:Nat} (hu:u<n) (hv:v<n) (hm:∀f:Nat->Nat,jO n es f->f u=f v) (hlt:F v<F u):Down n es (upd F u (F v)):=by
 refine⟨fun x hx=> ?_,fun f hf x hx=> ?_⟩
 .by_cases e:x=u
  .subst e;rw[upd_same];have:=h.le x hx;omega
  .rw[aX _ e];exact h.le x hx
 .by_cases e:x=u
  .subst e;rw[upd_same,h.sub f hf v hv];exact(hm f hf).symm
  .rw[aX _ e];exact h.sub f hf x hx
theorem Down.done {n:Nat} {es:List (Int×Int)} {F:Nat->Nat} (h:Down n es F) (hm:jO n es F) {m:Nat->Nat} (g:Gen n es m) {x:Nat} (hx:x<n):F x=m x:=by
 have e1:=g.least F hm x hx;have e2:=h.sub m g.meets x hx;have l1:=h.le x hx;have l2:=g.norm.le x hx;have l3:=h.le (m x) (by omega);have l4:=g.norm.le (F x) (by omega);omega
end Co
def cellNat (w:World) (g i:Nat):Nat:=
 match w.cell? ⟨g,i,none⟩ with
 |some (.int _ z)=>z.toNat
 |_=>0
theorem MN {w:World} {g n:Nat} {F:Nat->Nat} (h:aF w g (Co.ints n F)) {i:Nat} (hi:i<n):cellNat w g i=F i:=by
 unfold cellNat;rw[h.cell (Co.ints_at hi)];simp
theorem sum_eq {w:World} {g n:Nat} {F:Nat->Nat} (h:aF w g (Co.ints n F)):Co.sumTo (cellNat w g) n=Co.sumTo F n:=Co.qm n fun _ hi=>MN h hi
def Cl:Value->Nat
 | .bool true=>1
 |_=>0
theorem KW {n:Nat} {es:List (Int×Int)} {k u v:Nat} (hq:es[k]? =some ((u:Int),(v:Int))) (hu:u<n) (hv:v<n) {f:Nat->Nat} (hf:Co.jO n es f):f u=f v:=by
 have:=hf _ (aaJ hq) ⟨by dsimp only;omega,by dsimp only;omega⟩ ⟨by dsimp only;omega,by dsimp only;omega⟩;simpa using this
structure Pass (n:Nat) (es:List (Int×Int)) (F0 F:Nat->Nat) (i:Nat) (ch:Bool):Prop where
 down:Co.Down n es F
 less:Co.sumTo F n<=Co.sumTo F0 n
 yes:ch=true->Co.sumTo F n<Co.sumTo F0 n
 no:ch=false->Co.jO n (es.take i) F
theorem Co.jO.snoc {n:Nat} {es:List (Int×Int)} {F:Nat->Nat} (h:Co.jO n es F) {u v:Nat} (e:F u=F v):Co.jO n (es++[((u:Int),(v:Int))]) F:=by
 intro j hj h1 h2;rcases abo.1 hj with hj|hj
 .exact h j hj h1 h2
 .obtain rfl:=abe.1 hj
  simpa using e
theorem T7 (n:Int) (ao:Option Addr) (cap:Nat) (es:List (Int×Int)) (w:World) (he:ah w ao es) (hl:es.length<=4611686018427387904):
 Calls prog 89 #[aB n ao es.length cap] w (JE n es w):=by
 obtain⟨i0,hi,hz0,hz1,hz2⟩:=info_parts Tryz.cL;have HE:=ζ he;have kG:=fun W (hb:Below w.heap.size w W)=>fO n ao cap es W (he.later hb) hl
 unfold aB at kG ⊢;have dM:=ζ kG;clear he kG;have eA:Below w.heap.size w (w.alloc (.cells #[.int .i64 n,.slice ao es.length cap] 24)):=(aaG _ _).alloc (aaF _) _;have bZ:=ζ eA;clear eA;cases hv:Si.valid n es with
 |false=>
  rw[hv] at dM;have HV:=ζ hv;clear hv;go_enter func89,ntmps89;go_wp2_with (go_at_call 25;refine(dM.out _ bZ.out).mono ?_;rintro e w' ⟨rfl,hb⟩;refine aaI ?_);refine ζ ?_;have HB:=ζ (bZ.out.trans (hb.mono bZ.out.size));clear hb;go_wp2
  go_ret3
  exact⟨.inr ⟨HV.out,rfl⟩,HB.out⟩
 |true=>
  rw[hv] at dM;have hval:=Si.aL.1 hv;have bV:=hval.few;have hlo:=hval.lo;have hhi:=hval.hi;obtain⟨m,rfl⟩:∃m:Nat,n=(m:Int):=⟨n.toNat,by omega⟩;have cC:=ζ hval;clear hval hv;have hrn:∀W,Calls prog 136 #[.int .i64 (m:Int)] W fun e w'=>∃v,e= .returned (.tuple #[v,.int .i64 0])/\ak w' W.heap.size v (Co.ints m (fun x=>x))/\Below W.heap.size W w':=fun W=>(Rx m W).mono (by
   rintro e w' ⟨⟨j,v,h1,_,rfl,h4⟩|⟨h1,_⟩,hb⟩
   .obtain rfl:m=j:=by omega
    exact⟨v,rfl,h4,hb⟩
   .omega)
  have Y3:=ζ hrn;clear hrn;go_enter func89,ntmps89;go_wp2_with (go_at_call 25;refine(dM.out _ bZ.out).mono ?_;rintro e w1 ⟨rfl,hb⟩;refine aaI ?_);refine ζ ?_;have hG:w1.heap[w.heap.size]? =some (.cells #[.int .i64 m,.slice ao es.length cap] 24 (0,0)):=(hb.block _ (by simp)).trans (heap_alloc_new w _);have aD:=ζ (bZ.out.trans (hb.mono bZ.out.size));have HG:=ζ hG;have pP:=lt_of_block hG;obtain⟨g0,g1,-⟩:=af hG;clear hb hG dM;go_wp2_with (go_at_call 136;refine(Y3.out _).mono ?_;rintro e w2 ⟨nv,rfl,ho2,hb2⟩;obtain⟨no,nc,Yd,-,-⟩:=ho2.form;rw[Co.bw] at Yd;have mD:=ζ ho2;have aA:=ζ hb2;clear ho2 hb2;subst Yd;refine aaI ?_);refine ζ ?_;clear Y3 g0 g1;obtain⟨gb,hgb⟩:∃gb:Nat,(0<m->no=some ⟨gb,0,none⟩)/\(0<m->w1.heap.size<=gb/\aF w2 gb (Co.ints m (fun x=>x))):=by
   rcases mD.out.2 with ⟨h1,h2⟩|⟨g,c',cur,h1,h2,_⟩
   .exact⟨0,fun h=>by rw[Co.bw] at h2;omega,fun h=>by rw[Co.bw] at h2;omega⟩
   .have h3:=mD.out
    rw[Co.bw] at h1;cases h1;refine⟨g,fun _=>rfl,fun _=>⟨h2,?_⟩⟩;unfold ak at h3;rw[Co.bw] at h3;exact xU h3
  have o8:=ζ hgb;have ZR:Below w.heap.size w w2:=aD.out.trans (aA.out.mono aD.out.size);have rH:=ζ ZR;have cA:=ζ ((aA.out.block _ pP).trans HG.out);have hs1:=aD.out.size;clear hgb ZR mD HG aA;go_wp2;go_loopw [7] (fun cb wr=>∃(ch:Bool) (F:Nat->Nat),cb= .bool ch/\(0<m->aF wr gb (Co.ints m F))/\Co.Down m es F/\(ch=false->Co.jO m es F)/\wr.heap[w.heap.size]? =some (.cells #[.int .i64 m,.slice ao es.length cap] 24 (0,0))/\Below w.heap.size w wr) (fun cb wr=>2*Co.sumTo (cellNat wr gb) m+Cl cb)
  case atStart=>exact⟨true,_,rfl,fun h=>(o8.out.2 h).2,Co.Down.id m es,fun h=>(by cases h),cA.out,rH.out⟩
  case round=>
   obtain⟨ch,F0,rfl,hI0,Yw,SL,hg0,hb0⟩:=hrel;obtain⟨w0,rfl⟩:∃w0,w0=wr:=⟨wr,rfl⟩;have F9:=ζ hI0;have jR:=ζ hg0;have aI:=ζ hb0;have HD0:=ζ Yw;have HM0:=ζ SL;cases ch with
   |true=>
    clear hI0 Yw SL hg0 hb0;go_wp2;go_loopw [7,8] (fun cb cv wr=>∃(i:Nat) (ch:Bool) (F:Nat->Nat),i<=es.length/\cv= .int .i64 (i:Int)/\cb= .bool ch/\(0<m->aF wr gb (Co.ints m F))/\Pass m es F0 F i ch/\wr.heap[w.heap.size]? =some (.cells #[.int .i64 m,.slice ao es.length cap] 24 (0,0))/\Below w.heap.size w wr) (fun _ cv _=>es.length-(intOf cv).toNat)
    case atStart=>exact⟨0,false,F0,aaR _,rfl,rfl,F9.out,⟨HD0.out,aaF _,fun h=>(by cases h),fun _ j hj=>by simp at hj⟩,jR.out,aI.out⟩
    case round=>
     obtain⟨i,ch,F,hi',rfl,rfl,hI,hP,hg,hb⟩:=hrel;have HI:=ζ hI;have HP:=ζ hP;have HG:=ζ hg;have HB:=ζ hb;obtain⟨x0,x1,-⟩:=af hg;by_cases hlt:i<es.length
     .have aP:(i:Int)<(es.length:Int):=by omega
      have ZC:(0:Int)<=(i:Int):=by omega
      obtain⟨q,hq⟩:∃q,es[i]? =some q:=⟨_,aaE hlt⟩;have hok:=cC.out.each i q hq;unfold Si.ok at hok;obtain⟨b,o,rfl,c0,c1⟩:=(HE.out.later hb) i q hq;obtain⟨qu,qv⟩:=q;dsimp only at c0 c1 hok;obtain⟨u,rfl⟩:∃u:Nat,qu=(u:Int):=⟨qu.toNat,by omega⟩;obtain⟨v,rfl⟩:∃v:Nat,qv=(v:Int):=⟨qv.toNat,by omega⟩;have FA:u<m:=by omega
      have wh:v<m:=by omega
      have hIn:=hI (by omega);have afb:=(o8.out.2 (by omega)).1;have hno:=o8.out.1 (by omega);subst hno;have cu:=hIn.cell (Co.ints_at (f:=F) FA);have cv:=hIn.cell (Co.ints_at (f:=F) wh);have cf:=hIn.free;have u0:(0:Int)<=(u:Int):=by omega
      have u1:(u:Int)<(m:Int):=by omega
      have v0:(0:Int)<=(v:Int):=by omega
      have v1:(v:Int)<(m:Int):=by omega
      have Dz:∀f:Nat->Nat,Co.jO m es f->f u=f v:=fun f hf=>KW hq FA wh hf
      have htk:=Si.fR hq;have HMT:=ζ Dz;have JG:=ζ htk;have o7:=ζ hIn;have hne:u≠v:=by omega
      have yh:w.heap.size≠gb:=by omega
      rcases ab8 (F u) (F v) with hc|hc|hc
      ·
       have d1:¬(F v:Int)<(F u:Int):=by omega
       have d2:(F u:Int)<(F v:Int):=by omega
       have n1:=hIn.set (i:=v) (by rw[Co.bw];exact wh) (F u:Int);rw[Co.ints_set (F u) wh] at n1;have nM:=ζ n1;have q7:Hid (Pass m es F0 (Co.upd F v (F u)) (i+1) true):=by
        have hs:=Co.sumTo_upd hc m wh;exact⟨hP.down.step wh FA (fun f hf=>(Dz f hf).symm) hc,by have:=hP.less;omega,fun _=>by have:=hP.less;omega,fun h=>(by cases h)⟩
       have dB:Hid ((wr.setCell ⟨gb,v,none⟩ (.int .i64 (F u:Int))).heap[w.heap.size]? =some (.cells #[.int .i64 m,.slice (some ⟨b,o,none⟩) es.length cap] 24 (0,0))):=(heap_setCell_other wr ⟨gb,v,none⟩ w.heap.size _ yh).trans hg;have Bu:=ζ (hb.setCell (p:=⟨gb,v,none⟩) (by show w.heap.size<=gb;omega) (.int .i64 (F u:Int)));clear hI hP hg hb hq hok hIn n1 Dz htk;go_wp2_with fail;go_quiet (fail);go_wp2_with fail;go_quiet (fail);go_wp2_with fail;go_quiet (fail);go_wp2;go_roundw
       case rel=>exact⟨i+1,true,_,by omega,by go_num,rfl,fun _=>nM.out,q7.out,dB.out,below_drewN Bu.out _⟩
       case measure=>simp[intOf];omega
      .have d1:¬(F v:Int)<(F u:Int):=by omega
       have d2:¬(F u:Int)<(F v:Int):=by omega
       have q7:Hid (Pass m es F0 F (i+1) ch):=⟨hP.down,hP.less,hP.yes,fun h=>by rw[htk];exact(hP.no h).snoc hc⟩;clear hI hP hg hb hq hok hIn Dz htk;go_wp2_with fail;go_quiet (fail);go_wp2_with fail;go_quiet (fail);go_wp2_with fail;go_quiet (fail);go_wp2;go_roundw
       case rel=>exact⟨i+1,ch,F,by omega,by go_num,rfl,HI.out,q7.out,HG.out,below_drewN HB.out _⟩
       case measure=>simp[intOf];omega
      ·
       have d1:(F v:Int)<(F u:Int):=by omega
       have n1:=hIn.set (i:=u) (by rw[Co.bw];exact FA) (F v:Int);rw[Co.ints_set (F v) FA] at n1;have e1:=n1.cell (Co.ints_at FA);have e2:=n1.cell (Co.ints_at wh);rw[Co.upd_same] at e1;rw[Co.aX _ (acn hne)] at e2;have nM:=ζ n1;have q7:Hid (Pass m es F0 (Co.upd F u (F v)) (i+1) true):=by
        have hs:=Co.sumTo_upd hc m FA;exact⟨hP.down.step FA wh Dz hc,by have:=hP.less;omega,fun _=>by have:=hP.less;omega,fun h=>(by cases h)⟩
       have dB:Hid ((wr.setCell ⟨gb,u,none⟩ (.int .i64 (F v:Int))).heap[w.heap.size]? =some (.cells #[.int .i64 m,.slice (some ⟨b,o,none⟩) es.length cap] 24 (0,0))):=(heap_setCell_other wr ⟨gb,u,none⟩ w.heap.size _ yh).trans hg;have Bu:=ζ (hb.setCell (p:=⟨gb,u,none⟩) (by show w.heap.size<=gb;omega) (.int .i64 (F v:Int)));have d2:¬(F v:Int)<(F v:Int):=by omega
       clear hI hP hg hb hq hok hIn n1 Dz htk;go_wp2_with fail;go_quiet (fail);go_wp2_with fail;go_quiet (fail);go_wp2_with fail;go_quiet (fail);go_wp2;go_roundw
       case rel=>exact⟨i+1,true,_,by omega,by go_num,rfl,fun _=>nM.out,q7.out,dB.out,below_drewN ((below_drewN HB.out _).setCell (p:=⟨gb,u,none⟩) (by show w.heap.size<=gb;omega) _) _⟩
       case measure=>simp[intOf];omega
     .have hd:¬((i:Int)<(es.length:Int)):=by omega
      have cB:Hid (ch=false->Co.jO m es F):=fun h=>by
       have:=hP.no h;rw[abn (by omega)] at this;exact this
      clear hI hP hg hb;go_wp2;go_roundw
      case rel=>exact⟨ch,F,rfl,HI.out,HP.out.down,cB.out,HG.out,HB.out⟩
      case measure=>
       by_cases hm0:0<m
       .rw[sum_eq (HI.out hm0),sum_eq (F9.out hm0)]
        have h1:=HP.out.less;have h2:=HP.out.yes;cases ch
        .simp[Cl];omega
        .have:=h2 rfl
         simp[Cl];omega
       .obtain rfl:m=0:=by omega
        have h2:=HP.out.yes;cases ch
        .simp[Cl,Co.sumTo]
        .have:=h2 rfl
         simp[Co.sumTo] at this
   |false=>
    have hF:∀x,x<m->F0 x=Co.zB m es x:=fun x hx=>Yw.done (SL rfl) (Co.KN m es) hx
    have hI1:0<m->aF w0 gb (Co.ints m (Co.zB m es)):=fun h=>by rw[<-Co.oq hF];exact hI0 h
    have Y8:=ζ hI1;obtain⟨x0,x1,-⟩:=af hg0;have Ae:=ζ (Co.KN m es).norm;obtain⟨M,hM⟩:∃M,Co.zB m es=M:=⟨_,rfl⟩;rw[hM] at Y8 Ae;have q9:=ζ hM;have hs0:=hb0.size;have aes:=lt_of_block hg0;clear hI0 Yw SL hF hI1 hb0 hM hg0;go_wp2_with (at_make;refine wpList_make_full _ rfl _ _ 55 rfl w0.heap.size 3 i0 (.int .i64 0) 1 Tryz.underlying55 hi hz0 hz1 _ _ _ _ m rfl rfl rfl rfl (by rw[hz2];omega) (by unfold maxLen;omega) (aaF _) ?_;refine aaI ?_);refine ζ ?_;intro w3 hrow hg3;rw[dx] at hrow;have hik:=eR hrow;rw[<-Co.vY] at hik;have hb3:Below w0.heap.size w0 w3:=(aaG _ _).grown hg3 (aaF _) (fun j hj=>by cases hj);have jW:=ζ hik;have aK:=ζ hb3;clear hrow hg3 hik hb3 x0 x1;go_wp2;go_loopw [12,13] (fun s c wr=>∃(k:Nat) (F:Nat->Nat),k<=m/\c= .int .i64 (k:Int)/\s= .int .i64 (Co.aC (Co.fix M) k:Int)/\(∀i,i<k->F i=Co.num M i)/\aq wr w0.heap.size (Co.ints m F)/\Below w0.heap.size w0 wr) (fun _ c _=>m-(intOf c).toNat)
    case atStart=>exact⟨0,_,aaR _,rfl,rfl,fun i hi=>by omega,jW.out,aK.out⟩
    case round=>
     obtain⟨k,F,hk,rfl,rfl,hF,lK,hb⟩:=hrel;have hcl:=Co.bM (Co.fix M) k;have hgr:=(hb.block w.heap.size aes).trans jR.out;obtain⟨x0,x1,-⟩:=af hgr;have HF:=ζ hF;have HIS:=ζ lK;have HB:=ζ hb;by_cases hkn:k<m
     .have hk0:(0:Int)<=(k:Int):=by omega
      have hk1:(k:Int)<(m:Int):=by omega
      have hno:=o8.out.1 (by omega);have cl:=((Y8.out (by omega)).later hb).cell (Co.ints_at (f:=M) hkn);have cx:=lK.cell (Co.ints_at (f:=F) hkn);have cf:=lK.free;have jg:=hb.size;have afb:=(Y8.out (by omega)).lt;subst hno;by_cases hf:M k=k
      .have hd:((M k:Int)==(k:Int))=true:=by simp[hf]
       have rO:=ζ (Co.vH hf);have F6:=ζ (Co.GI hf);obtain⟨z,hz⟩:∃z,Co.aC (Co.fix M) k=z:=⟨_,rfl⟩;rw[hz] at hcl rO F6 ⊢;have n1:=lK.set k (z:Int);rw[Co.ints_set z hkn] at n1;have nM:=ζ n1;have Xl:=ζ (hb.setCell (p:=⟨w0.heap.size,k,none⟩) (aaF _) (.int .i64 (z:Int)));clear hF lK hb n1 hgr hz hf;go_wp2;go_roundw
       case rel=>
        refine⟨k+1,_,by omega,by go_num,by rw[rO.out];go_num,fun i hi=> ?_,nM.out,Xl.out⟩;by_cases e:i=k
        .subst e;rw[Co.upd_same,F6.out]
        .rw[Co.aX _ e];exact HF.out i (by omega)
       case measure=>simp[intOf];omega
      .have hd:((M k:Int)==(k:Int))=false:=by simp;omega
       have hml:=Ae.out.le k hkn;have hmk:M k<k:=by omega
       have rO:=ζ (Co.yq hf);have OT:=HF.out (M k) hmk;rw[Co.C7 Ae.out hkn] at OT;have Xb:=ζ OT;obtain⟨z,hz⟩:∃z,Co.aC (Co.fix M) k=z:=⟨_,rfl⟩;rw[hz] at hcl rO ⊢;obtain⟨y,hy⟩:∃y,M k=y:=⟨_,rfl⟩;rw[hy] at hmk hd Xb cl;have cy:=lK.cell (Co.ints_at (f:=F) (show y<m by omega));have y0:(0:Int)<=(y:Int):=by omega
       have y1:(y:Int)<(m:Int):=by omega
       have n1:=lK.set k (F y:Int);rw[Co.ints_set (F y) hkn] at n1;have nM:=ζ n1;have Xl:=ζ (hb.setCell (p:=⟨w0.heap.size,k,none⟩) (aaF _) (.int .i64 (F y:Int)));clear hF lK hb n1 hgr hz hf hy hml OT;go_wp2;go_roundw
       case rel=>
        refine⟨k+1,_,by omega,by go_num,by rw[rO.out],fun i hi=> ?_,nM.out,Xl.out⟩;by_cases e:i=k
        .subst e;rw[Co.upd_same,Xb.out]
        .rw[Co.aX _ e];exact HF.out i (by omega)
       case measure=>simp[intOf];omega
     .have hd:¬((k:Int)<(m:Int)):=by omega
      obtain rfl:k=m:=by omega
      rw[Co.oq hF] at lK;have agP:=ζ lK;clear hF lK hb hgr;go_wp2
      go_ret3
      refine⟨.inl ⟨k,.slice (some ⟨w0.heap.size,0,none⟩) k k,rfl,cC.out,?_,?_⟩,aI.out.trans (HB.out.mono hs0)⟩
      .rw[q9.out];rfl
      .rw[q9.out];exact agP.out.own hs0 (Co.bw _ _) (by omega)
end
section
open Go.RowKit Go.Sort
namespace Fa
def ad3 (j:Nat) (l:List Nat) (acc:List Int):List Int:=l.foldl (fun acc h=>acc.set h (j:Int)) acc
def lay (fs:List (List Nat)):Nat->List Int->List Int
 |0,acc=>acc
 |k+1,acc=>ad3 k (fs.getD k []) (lay fs k acc)
def left (es:List (Int×Int)) (ls:List (List Int)):List Int:=lay (aR (ph es ls) (2*es.length) (2*es.length)) (aR (ph es ls) (2*es.length) (2*es.length)).length (List.replicate (2*es.length) 0)
section
end
end Fa
end
end Go.Proofs.YtdbjpbjocmcpkaaGreatDoor
