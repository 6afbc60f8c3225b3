import Derived.Test.YtdbjpbjocmcpkaaGreatDoorMj08
import Derived.Defers
import Derived.Recover
set_option maxHeartbeats 8000000
set_option maxRecDepth 100000
namespace Go.Proofs.YtdbjpbjocmcpkaaGreatDoor
section
open Go.Proofs.Tryz
open Go.RowKit Go.Sort
def eH (v:Nat) (c:Int):Value:= .iface 233 (.agg #[.int .i64 (v:Int),.int .i64 c])
structure jN (w:World) (B p gd gs n:Nat) (ao:Option Addr) (ca:Nat) (es:List (Int×Int)) (f:Nat->Bool):Prop where
 blk:w.heap[p]? =some (.cells #[.int .i64 (n:Int),.slice ao es.length ca,.slice (some ⟨gd,0,none⟩) n n,.slice (some ⟨gs,0,none⟩) (2*es.length) (2*es.length)] 306 (0,0))
 iM:aq w gd (Si.aS n es)
 Kf:aG w gs (2*es.length) f
 lo:B<=p/\B<=gd/\B<=gs
 ne:p≠gs/\gd≠gs/\p≠gd
theorem jN.later {w w':World} {B p gd gs n:Nat} {ao:Option Addr} {ca:Nat} {es:List (Int×Int)} {f:Nat->Bool} (h:jN w B p gd gs n ao ca es f) (hb:Below w.heap.size w w'):jN w' B p gd gs n ao ca es f:=
 ⟨(hb.block p (lt_of_block h.blk)).trans h.blk,h.iM.later hb,h.Kf.later hb,h.lo,h.ne⟩
theorem jN.keep {w w':World} {B p gd gs n:Nat} {ao:Option Addr} {ca:Nat} {es:List (Int×Int)} {f:Nat->Bool} (h:jN w B p gd gs n ao ca es f) (hb:∀b,b=p\/b=gd\/b=gs->w'.heap[b]? =w.heap[b]?):jN w' B p gd gs n ao ca es f:=
 ⟨(hb p (.inl rfl)).trans h.blk,(hb gd (.inr (.inl rfl))).trans h.iM,(hb gs (.inr (.inr rfl))).trans h.Kf,h.lo,h.ne⟩
theorem jN.set {w:World} {B p gd gs n:Nat} {ao:Option Addr} {ca:Nat} {es:List (Int×Int)} {f:Nat->Bool} (h:jN w B p gd gs n ao ca es f) (j:Nat) (y:Bool):jN (w.setCell ⟨gs,j,none⟩ (.bool y)) B p gd gs n ao ca es (Co.fZ f j y):=
 ⟨(fJ h.ne.1 _).trans h.blk,h.iM.mX h.ne.2.1 _,h.Kf.set j y,h.lo,h.ne⟩
theorem ep {w:World} {B g j:Nat} (x:Value) (h:B<=g):Below B w (w.setCell ⟨g,j,none⟩ x):=
 ⟨rfl,rfl,rfl,by simp,fun k hk=>heap_setCell_other w ⟨g,j,none⟩ k x (by show k≠g;omega)⟩
def Px (B p gd gs n:Nat) (ao:Option Addr) (ca:Nat) (es:List (Int×Int)) (f:Nat->Bool) (v:Nat) (h:Int) (w:World) (e:Ending) (w':World):Prop:=
 av (fun b=>b=gs) w w'/\((Ro.lv es h v=false/\e= .panicked [{ v:=eH v 111,recovered:=false }])\/(Ro.lv es h v=true/\f h.toNat=true/\e= .panicked [{ v:=eH v 112,recovered:=false }])\/
  (Ro.lv es h v=true/\f h.toNat=false/\e= .returned (.tuple #[])/\jN w' B p gd gs n ao ca es (Co.fZ f h.toNat true)))
theorem CD (B p gd gs n:Nat) (ao:Option Addr) (ca:Nat) (es:List (Int×Int)) (f:Nat->Bool) (v:Nat) (h:Int) (w:World) (hr:jN w B p gd gs n ao ca es f) (he:ah w ao es) (hv:Si.Val n es):
 Calls prog 198 #[.pointer (some ⟨p,0,none⟩),.int .i64 (v:Int),.int .i64 h] w (Px B p gd gs n ao ca es f v h w):=by
 have HL:=ζ (K7 n ao ca es h v w he hv);obtain⟨c0,c1,c2,c3,-⟩:=oy hr.blk;have hpl:=lt_of_block hr.blk;have HR:=ζ hr;have bV:=hv.few;clear hr he hv;cases hlv:Ro.lv es h v with
 |false=>
  rw[hlv] at HL;have yT:=ζ hlv;clear hlv;go_enter func198,ntmps198;go_wp2_with (go_at_call 254;refine HL.out.mono ?_;rintro e w1 ⟨rfl,hb1⟩);exact⟨rfl,(av.refl _ _).later hb1,.inl ⟨yT.out,rfl⟩⟩
 |true=>
  rw[hlv] at HL;obtain⟨j,rfl,hj⟩:∃j:Nat,h=(j:Int)/\j<2*es.length:=by
   unfold Ro.lv at hlv;simp at hlv;exact⟨h.toNat,by omega,by omega⟩
  have yT:=ζ hlv;clear hlv;have hj2:(j:Int)<2*(es.length:Int):=by omega
  have HJ:=ζ hj;clear hj;go_enter func198,ntmps198;go_wp2_with (go_at_call 254;refine HL.out.mono ?_;rintro e w1 ⟨rfl,hb1⟩;refine aaI ?_);refine ζ ?_;have hr1:=HR.out.later hb1;have aD:=ζ ((av.refl (fun b=>b=gs) w).later hb1);clear c0 c1 c2 c3 hb1;obtain⟨c0,c1,c2,c3,-⟩:=oy hr1.blk;have cs:=hr1.Kf.cell HJ.out;have cf:=hr1.Kf.free j;have jF:=ζ hr1;clear hr1;cases hf:f j with
  |true=>
   rw[hf] at cs;go_wp2;exact⟨rfl,aD.out,.inr (.inl ⟨yT.out,hf,rfl⟩)⟩
  |false=>
   rw[hf] at cs;have HF:=ζ hf;clear hf;go_wp2
   go_end0
   exact⟨aD.out.setCell rfl _,.inr (.inr ⟨yT.out,HF.out,rfl,jF.out.set j true⟩)⟩
def Nv (es:List (Int×Int)) (v k:Nat) (w:World) (e:Ending) (w':World):Prop:=
 w'=w/\((k<Ro.iM es v/\e= .panicked [{ v:=eH v 113,recovered:=false }])\/(¬k<Ro.iM es v/\e= .returned (.tuple #[])))
theorem Gy (B p gd gs n:Nat) (ao:Option Addr) (ca:Nat) (es:List (Int×Int)) (f:Nat->Bool) (v k:Nat) (w:World) (hr:jN w B p gd gs n ao ca es f) (hv:Si.Val n es) (Dt:v<n):
 Calls prog 199 #[.pointer (some ⟨p,0,none⟩),.int .i64 (v:Int),.int .i64 (k:Int)] w (Nv es v k w):=by
 obtain⟨c0,c1,c2,c3,-⟩:=oy hr.blk;have hd:(Si.aS n es)[v]? =some (Ro.iM es v:Int):=by
  have:=Cs.pX hv es.length (aaF _) v Dt;rw[abQ] at this;exact this
 have cd:=hr.iM.cell hd;have aeg:(v:Int)<(n:Int):=by omega
 obtain⟨D,hD⟩:∃D,D=Ro.iM es v:=⟨_,rfl⟩;unfold Nv;rw[<-hD] at cd ⊢;clear hr hd hv hD;by_cases hk:k<D
 .have hk2:(k:Int)<(D:Int):=by omega
  go_enter func199,ntmps199;go_wp2;exact⟨rfl,rfl,.inl ⟨hk,rfl⟩⟩
 .have hk2:¬(k:Int)<(D:Int):=by omega
  go_enter func199,ntmps199;go_wp2
  go_end0
  exact⟨rfl,rfl⟩
end
section
open Go.RowKit Go.Sort
def Py (n:Int) (es:List (Int×Int)) (ls:List (List Int)) (w:World) (e:Ending) (w':World):Prop:=
 Below w.heap.size w w'/\(((Ro.check n es ls).2≠0/\e= .returned (.tuple #[.slice none 0 0,.int .i64 (Ro.check n es ls).2]))\/
  ((Ro.check n es ls).2=0/\∃g,e= .returned (.tuple #[.slice (some ⟨g,0,none⟩) (2*es.length) (2*es.length),.int .i64 0])/\w.heap.size<=g/\aq w' g (Ro.kC es ls)))
end
section
open Go.Proofs.Tryz
open Go.RowKit Go.Sort
def Pz (n:Int) (ao:Option Addr) (ca:Nat) (es:List (Int×Int)) (k:Nat) (w:World) (e:Ending) (w':World):Prop:=
 Below w.heap.size w w'/\((Si.valid n es=false/\e= .panicked [{ v:=eH 0 1,recovered:=false }])\/(Si.valid n es=true/\(k:Int)≠n/\e= .panicked [{ v:=eH 0 110,recovered:=false }])\/
  (Si.valid n es=true/\(k:Int)=n/\∃p gd gs,e= .returned (.pointer (some ⟨p,0,none⟩))/\jN w' w.heap.size p gd gs k ao ca es (fun _=>false)))
theorem su (n:Int) (ao:Option Addr) (ca:Nat) (es:List (Int×Int)) (k:Nat) (w:World) (he:ah w ao es) (hl:es.length<=4611686018427387904):
 Calls prog 197 #[aB n ao es.length ca,.int .i64 (k:Int)] w (Pz n ao ca es k w):=by
 have hb0:Below w.heap.size w (w.alloc (.cells #[.int .i64 n,.slice ao es.length ca] 24)):=(aaG _ _).alloc (aaF _) _;have HD:=ζ (yx n ao ca es _ (he.later hb0) hl);have aI:=ζ hb0;obtain⟨i0,hi,hz0,hz1,hz2⟩:=info_parts Tryz.pO;unfold aB at HD ⊢;clear he hb0;go_enter func197,ntmps197;go_wp2_with (go_at_call 173;refine HD.out.mono ?_;refine aaI ?_);refine ζ ?_;rintro e w1 ⟨hp,hb1⟩;have hG:w1.heap[w.heap.size]? =some (.cells #[.int .i64 n,.slice ao es.length ca] 24 (0,0)):=(hb1.block _ (by simp)).trans (heap_alloc_new w _);have aD:=ζ (aI.out.trans (hb1.mono aI.out.size));obtain⟨g0,g1,-⟩:=af hG;have pP:=lt_of_block hG;have hs1:(w.alloc (.cells #[.int .i64 n,.slice ao es.length ca] 24)).heap.size<=w1.heap.size:=hb1.size;rw[aa7] at hs1;have HG:=ζ hG;clear hb1 hG;rcases hp with ⟨hv,g,m,rfl,rfl,hg,hint⟩|⟨hv,rfl⟩
 .have hval:=Si.aL.1 hv
  have bV:=hval.few;have hlo:=hval.lo;have hhi:=hval.hi;have HV:=ζ hv;have HI:=ζ hint;have Ji:=hint.lt;have W9:=ζ hg;clear hv hval hint hg;by_cases hk:k=m
  .subst hk
   obtain⟨M,hM⟩:∃M,M=2*es.length:=⟨_,rfl⟩;have hmul:IntKind.i64.wrap (2*(es.length:Int))=(M:Int):=by rw[aaK];omega
   have Jd:2*(es.length:Int)=(M:Int):=by omega
   have hMb:M<=8388608:=by omega
   have SL:¬(M:Int)<0:=by omega
   have hmk:∀W,(Instr.makeSlice 237 (.int .i64 (M:Int)) (.int .i64 (M:Int))).run prog W= .ok (.slice (some ⟨W.heap.size,0,none⟩) M M) (W.alloc (.cells (madeCells #[.bool false] M) 4)):=fun W=>by
    have:=run_make (P:=prog) W 237 4 i0 (.bool false) Tryz.underlying237 hi hz0 .i64 .i64 (M:Int) (M:Int) (by omega) (by omega) (by rw[hz2];omega) (by omega);rw[this,hz1];simp[Value.cells]
   have q9:=ζ hM;clear hM hi hz0 hz1 hz2;go_wp2_with fail
   go_region
   all_goals
    clear hmk;go_wp2;go_ret;have HH:=HI.out;have hB1:=aD.out;have hge:=W9.out;rw[aa7] at hge;obtain rfl:=q9.out;have hA:=((hB1.alloc (by omega) (.cells (madeCells #[.bool false] (2*es.length)) 4)).alloc (by simp;omega) (.cells #[.int .i64 (k:Int),.slice ao es.length ca,.slice (some ⟨g,0,none⟩) k k,.slice (some ⟨w1.heap.size,0,none⟩) (2*es.length) (2*es.length)] 306));refine⟨?_,.inr (.inr ⟨HV.out,rfl,w1.heap.size+1,g,w1.heap.size,rfl,?_,?_,?_,?_,?_⟩)⟩
    .first|exact hA|exact hA.drew
    .exact alloc_at (by simp)
    .exact(HH.alloc _).alloc _
    .refine aG.same (k9 (W:=w1) rfl (2*es.length)) ?_
     exact aa0 _ _ _ (by simp)
    .exact⟨by omega,by omega,by omega⟩
    .exact⟨by omega,by omega,by omega⟩
  .have hk2:¬(k:Int)=(m:Int):=by omega
   have hk3:((k:Int) != (m:Int))=true:=by simp;omega
   have HK:=ζ hk;clear hk;go_wp2;exact⟨rfl,aD.out,.inr (.inl ⟨HV.out,hk2,rfl⟩)⟩
 .have HV:=ζ hv
  clear hv;go_wp2;exact⟨rfl,aD.out,.inl ⟨HV.out,rfl⟩⟩
end
section
open Go.RowKit Go.Sort
def eX (n:Int) (es:List (Int×Int)) (ls:List (List Int)) (w:World) (e:Ending) (w':World):Prop:=
 Below w.heap.size w w'/\(((Ro.check n es ls).2=0/\e= .returned (.tuple #[]))\/((Ro.check n es ls).2≠0/\e= .panicked [{ v:=eH (Ro.check n es ls).1 (Ro.check n es ls).2,recovered:=false }]))
theorem eX.bad {n:Int} {es:List (Int×Int)} {ls:List (List Int)} {w w':World} {v:Nat} {c:Int} (hb:Below w.heap.size w w') (h:Ro.check n es ls=(v,c)) (hc:c≠0):eX n es ls w (.panicked [{ v:=eH v c,recovered:=false }]) w':=by
 refine⟨hb,.inr ?_⟩;rw[h];exact⟨hc,rfl⟩
theorem BK (n:Int) (ao:Option Addr) (ca:Nat) (es:List (Int×Int)) (xo:Option Addr) (xc:Nat) (ls:List (List Int)) (w:World) (he:ah w ao es) (hl:es.length<=4611686018427387904) (hx:bH w xo ls):
 Calls Tryz.prog 134 #[aB n ao es.length ca,.slice xo ls.length xc] w (eX n es ls w):=by
 have hb0:Below w.heap.size w (w.alloc (.cells #[.int .i64 n,.slice ao es.length ca] 24)):=(aaG _ _).alloc (aaF _) _;have HN:=ζ (su n ao ca es ls.length _ (he.later hb0) hl);have aI:=ζ hb0;have HE:=ζ he;have HX:=ζ hx;unfold aB at HN ⊢;clear he hb0 hx;go_enter Tryz.func134,Tryz.ntmps134;go_wp2_with (go_at_call 197;refine HN.out.mono ?_;refine aaI ?_);refine ζ ?_;rintro e w1 ⟨hb1,hp⟩;have aD:=ζ (aI.out.trans (hb1.mono aI.out.size));have hs1:=hb1.size;rw[aa7] at hs1;clear hb1;rcases hp with ⟨hv,rfl⟩|⟨hv,hk,rfl⟩|⟨hv,rfl,p,gd,gs,rfl,hr⟩
 .exact⟨rfl,eX.bad aD.out (by simp[Ro.check,hv]) (by decide)⟩
 .exact⟨rfl,eX.bad aD.out (by simp[Ro.check,hv,hk]) (by decide)⟩
 have hck:Ro.check (ls.length:Int) es ls=Ro.ig es 0 ls:=by simp[Ro.check,hv]
 have hval:=Si.aL.1 hv;have ew:=ζ hck;have cC:=ζ hval;have hlb:=hval.hi;have HR:=ζ (show jN w1 w.heap.size p gd gs ls.length ao ca es (fun _=>false) from⟨hr.blk,hr.iM,hr.Kf,⟨by have:=hr.lo.1;simp at this;omega,by have:=hr.lo.2.1;simp at this;omega,by have:=hr.lo.2.2;simp at this;omega⟩,hr.ne⟩);clear hr hv hck hval;go_wp2;go_loopw [15] (fun c wr=>∃(k:Nat) (f:Nat->Bool) (D:List Int),k<=ls.length/\c= .int .i64 (k:Int)/\Ro.ig es 0 ls=Ro.ig es k (ls.drop k)/\Ro.Sd es f k D []/\jN wr w.heap.size p gd gs ls.length ao ca es f/\Below w.heap.size w wr) (fun c _=>ls.length-(intOf c).toNat)
 case atStart=>exact⟨0,_,[],aaR _,rfl,rfl,Ro.Sd.start es,HR.out,aD.out⟩
 case round=>
  obtain⟨k,f,D,hk,rfl,hch,qE,hr,hb⟩:=hrel;clear HR;have jq:=ζ hch;have iA:=ζ qE;have HR:=ζ hr;have HB:=ζ hb;clear hch qE hr hb;by_cases hlt:k<ls.length
  .have aP:(k:Int)<(ls.length:Int):=by omega
   have hk0:(0:Int)<=(k:Int):=by omega
   obtain⟨l,hlk⟩:∃l,ls[k]? =some l:=⟨_,aaE hlt⟩;obtain⟨b,o,A,C,rfl,hc,hL,ny⟩:=HX.out k l hlk;have hbl:b<w.heap.size:=block_lt_of_cell hc;have hcr:=(HB.out.cell (p:=⟨b,o+k,none⟩) hbl).trans hc;have HL:=ζ hL;have fL:=ζ hlk;have akb:=ny.1;clear hc hL hlk ny;go_wp2;go_loopw [22] (fun c wr=>∃(i:Nat) (f:Nat->Bool),i<=l.length/\c= .int .i64 (i:Int)/\Ro.gm es k [] l=Ro.gm es k (l.take i) (l.drop i)/\Ro.Sd es f k D (l.take i)/\jN wr w.heap.size p gd gs ls.length ao ca es f/\Below w.heap.size w wr) (fun c _=>l.length-(intOf c).toNat)
   case atStart=>exact⟨0,f,aaR _,rfl,rfl,iA.out,HR.out,HB.out⟩
   case round=>
    clear HR HB iA hcr;obtain⟨i,f,hi,rfl,hel,qE,hr,hb⟩:=hrel;have ru:=ζ hel;have iA:=ζ qE;have HR:=ζ hr;have HB:=ζ hb;clear hel qE hr hb;by_cases hil:i<l.length
    .have DJ:(i:Int)<(l.length:Int):=by omega
     have nS:(0:Int)<=(i:Int):=by omega
     obtain⟨h,hh⟩:∃h,l[i]? =some h:=⟨_,aaE hil⟩;obtain⟨lb,lo',rfl,lc⟩:=HL.out.elem hh;have yg:lb<w.heap.size:=block_lt_of_cell lc;have hlc:=(HB.out.cell (p:=⟨lb,lo'+i,none⟩) yg).trans lc;have HST:=ζ (CD w.heap.size p gd gs ls.length ao ca es f k h wr HR.out (HE.out.later HB.out) cC.out);have HH:=ζ hh;clear hh lc;go_wp2_with (go_at_call 198;refine HST.out.mono ?_;refine aaI ?_);refine ζ ?_;rintro e w2 ⟨hw2,hp⟩;have hb2:=hw2.below HB.out.size (B:=w.heap.size) (fun k hk=>by rw[hk];exact HR.out.lo.2.2);have aA:=ζ (HB.out.trans hb2);clear hw2;clear hb2;rcases hp with ⟨hlv,rfl⟩|⟨hlv,hf,rfl⟩|⟨hlv,hf,rfl,hr2⟩
     .refine⟨rfl,eX.bad aA.out ?_ (by decide)⟩
      rw[ew.out,jq.out,Ro.drop_cons fL.out];exact Ro.fH (Ro.kV (by rw[ru.out,Ro.drop_cons HH.out,Ro.pW hlv]) (by decide)) (by decide)
     .obtain⟨j,rfl,-,-⟩:=Ro.uf hlv
      refine⟨rfl,eX.bad aA.out ?_ (by decide)⟩;rw[ew.out,jq.out,Ro.drop_cons fL.out];exact Ro.fH (Ro.kV (by rw[ru.out,Ro.drop_cons HH.out,Ro.nG hlv ((iA.out.twice hlv).1 hf)]) (by decide)) (by decide)
     .obtain⟨j,rfl,-,-⟩:=Ro.uf hlv
      have E1:=ζ (show Ro.gm es k [] l=Ro.gm es k (l.take (i+1)) (l.drop (i+1)) by
       rw[ru.out,Ro.drop_cons HH.out,Ro.ur hlv (fun h=>by have h2:=(iA.out.twice hlv).2 h;rw[abu,h2] at hf;cases hf),Ro.dU HH.out])
      have Nd:=ζ (show Ro.Sd es (Co.fZ f j true) k D (l.take (i+1)) by rw[Ro.dU HH.out];exact iA.out.put hlv);have nT:=ζ hr2;clear hlv hf hr2;go_wp2;go_roundw
      case rel=>exact⟨i+1,_,by omega,by go_num,E1.out,Nd.out,nT.out,aA.out⟩
      case measure=>simp[intOf];omega
    .have DJ:¬(i:Int)<(l.length:Int):=by omega
     obtain rfl:i=l.length:=by omega
     have Xd:=ζ (Gy w.heap.size p gd gs ls.length ao ca es f k l.length wr HR.out cC.out hlt);have tM:=ζ (show Ro.gm es k [] l=0 by rw[ru.out];simp[Ro.gm]);go_wp2_with (go_at_call 199;refine Xd.out.mono ?_;refine aaI ?_);refine ζ ?_;rintro e w2 ⟨hw2,hp⟩;obtain rfl:=hw2.symm;rcases hp with ⟨hd,rfl⟩|⟨hd,rfl⟩
     .refine⟨rfl,eX.bad HB.out ?_ (by decide)⟩
      rw[ew.out,jq.out,Ro.drop_cons fL.out];exact Ro.fH (Ro.l8 tM.out hd) (by decide)
     .have E2:=ζ (show Ro.ig es 0 ls=Ro.ig es (k+1) (ls.drop (k+1)) by
       rw[jq.out,Ro.drop_cons fL.out,Ro.yF (Ro.wX tM.out hd)])
      have Nd:=ζ (by have:=iA.out.next;exact this);clear hd;go_wp2;go_roundw
      case rel=>exact⟨k+1,f,_,by omega,by go_num,E2.out,Nd.out,HR.out,HB.out⟩
      case measure=>simp[intOf];omega
  .have aP:¬(k:Int)<(ls.length:Int):=by omega
   obtain rfl:k=ls.length:=by omega
   go_wp2
   go_end0
   refine⟨HB.out,.inl ⟨?_,rfl⟩⟩;rw[ew.out,jq.out];simp[Ro.ig]
end
section
open Go.Proofs.Tryz
open Go.RowKit Go.Sort
theorem Iz (p:Addr) (w:World):
 CallsD prog 196 #[.pointer (some p)] .returning w fun e u' w'=>e= .returned (.tuple #[])/\u'= .returning/\w'=w:=by
 refine callsD_of_wpS func196 rfl fun c₀ cs hu=> ?_
 apply wpS_seq;apply wpS_region;simp[wpOpsS,go_sem,recoverD,hu,ntmps196,Exit.thenS];refine wpS_of_wp ?_;go_wp2;cases c₀
 simp_all[bodyPostS,results,results196]
def o9 (w:World) (b:Nat) (v c:Int):Prop:=w.heap[b]? =some (.cells #[.int .i64 v,.int .i64 c] 233 (0,0))
def CS (w:World) (b:Nat) (v c:Int):World:=(w.setCell ⟨b,0,none⟩ (.int .i64 v)).setCell ⟨b,1,none⟩ (.int .i64 c)
theorem o9.put {w:World} {b:Nat} {v c:Int} (h:o9 w b v c) (v' c':Int):o9 (CS w b v' c') b v' c':=by
 unfold o9 CS at*;rw[heap_setCell_same _ b 1 _ _ _ (heap_setCell_same w b 0 _ _ _ h)];rfl
theorem KB (w:World) {b k:Nat} (v c:Int) (h:k≠b):(CS w b v c).heap[k]? =w.heap[k]? :=by
 unfold CS;rw[heap_setCell_other _ ⟨b,1,none⟩ k _ h,heap_setCell_other _ ⟨b,0,none⟩ k _ h]
theorem NY (w:World) (b:Nat) (v c:Int):(CS w b v c).heap.size=w.heap.size:=by simp[CS]
theorem AD (w:World) (b:Nat) (v c:Int):av (fun k=>k=b) w (CS w b v c):=
 ⟨rfl,rfl,rfl,by rw[NY];exact aaF _,fun k _ hk=>KB w v c hk⟩
theorem Fg (b:Nat) (v0 c0:Int) (v:Nat) (c:Int) (w:World) (hr:o9 w b v0 c0):
 CallsD prog 196 #[.pointer (some ⟨b,0,none⟩)] (.panicking [{ v:=eH v c,recovered:=false }]) w fun e u' w'=>
  e= .returned (.tuple #[])/\u'= .panicking [{ v:=eH v c,recovered:=true }]/\o9 w' b (v:Int) c/\av (fun k=>k=b) w w':=by
 obtain⟨d0,d1,d2⟩:=af hr;have hbl:=lt_of_block hr;have zQ:∀(x:Value) (w:World),(Instr.typeAssert (.iface 233 x) 20 233 true).run prog w= .ok (.tuple #[x,.bool true]) w:=fun _ _=>by kernel_rfl
 have hnil:∀(x:Value) (w:World),(binOp .eql 20 (.iface 233 x) .nilIface).run prog w= .ok (.bool false) w:=fun _ _=>by kernel_rfl
 refine callsD_of_wpS func196 rfl fun c₀ cs hu=> ?_
 unfold eH at hu ⊢;apply wpS_seq;apply wpS_region;simp[wpOpsS,go_sem,recoverD,hu,ntmps196,Exit.thenS,Array.replicate];refine wpS_of_wp ?_;have HR:=ζ hr;clear hr;go_wp2;refine⟨rfl,_,rfl,.tuple #[],by simp[results,results196],rfl,rfl,?_,(AD w b v c).alloc _⟩;unfold o9;rw[aa0 _ _ _ (by simpa using hbl)];exact HR.out.put (v:Int) c
def Nx (b:Nat) (K0:World->Prop) (K1:Nat->Int->World->Prop) (e:Ending) (w':World):Prop:=
 ∃W1,((K0 W1/\e= .returned (.agg #[.int .i64 0,.int .i64 0]))\/∃v c,K1 v c W1/\e= .returned (.agg #[.int .i64 (v:Nat),.int .i64 c]))/\av (fun k=>k=b) W1 w'
theorem xk (tmps:Array Value) (W:World) (b:Nat) (v c:Int) (h2:tmps.getD 2 undef= .pointer (some ⟨b,0,none⟩)) (hr:o9 W b v c):
 (results Tryz.f132 tmps).run prog W= .ok (.agg #[.int .i64 v,.int .i64 c]) W:=
 results_cell_row (p:=2) (ty:=233) results132 tmps W b 233 _ (0,0) _ h2 hr Tryz.underlying233 rfl (by kernel_rfl)
theorem Bh (kf:Nat) (bs:Array Value) (K0:World->Prop) (K1:Nat->Int->World->Prop) (w:World)
 (hent:∀(args:Array Value) (w:World),(callFunc kf args).run prog w= .ok (.enter kf args) w)
 (Vv:Calls prog kf bs (w.alloc (.cells #[.int .i64 0,.int .i64 0] 233)) fun e w'=>o9 w' w.heap.size 0 0/\((e= .returned (.tuple #[])/\K0 w')\/∃v c,e= .panicked [{ v:=eH v c,recovered:=false }]/\K1 v c w')):
 Calls prog 132 #[.func (.func kf) #[] bs] w (Nx w.heap.size K0 K1):=by
 have Yg:∀(fn:Fn) (first cap:Array Value) (w:World),(Instr.makeFunc fn first cap).run prog w= .ok (.func fn first cap) w:=fun _ _ _ _=>rfl
 have HC:=ζ Vv;clear Vv
 go_enter_defers func132,ntmps132
 go_wp2_with (go_at_fn kf;(try simp only[Array.empty_append]);refine HC.out.mono ?_;refine aaI ?_);refine ζ ?_;rintro e w1 ⟨hf,hp⟩;rcases hp with ⟨rfl,hk⟩|⟨v,c,rfl,hk⟩
 .obtain⟨d0,d1,d2⟩:=af hf
  have HF:=ζ hf;have HK:=ζ hk;clear hf hk;go_wp2;refine leaves_cons (f:=196) (args:= #[.pointer (some ⟨w.heap.size,0,none⟩)]) (by simp) (by simp[go_sem]) ?_;refine(Iz _ _).mono ?_;rintro e u' w3 ⟨rfl,rfl,rfl⟩;exact⟨_,xk _ _ w.heap.size _ _ rfl (HF.out.put 0 0),w1,.inl ⟨HK.out,rfl⟩,AD _ _ _ _⟩
 .refine leaves_cons (f:=196) (args:= #[.pointer (some ⟨w.heap.size,0,none⟩)]) (by simp) (by simp[go_sem]) ?_
  refine(Fg w.heap.size _ _ v c w1 hf).mono ?_;rintro e u' w3 ⟨rfl,rfl,wk,hb3⟩;exact⟨_,xk _ _ w.heap.size _ _ rfl wk,w1,.inr ⟨v,c,hk,rfl⟩,hb3⟩
end
section
open Go.Proofs.Tryz
open Go.RowKit Go.Sort
theorem MK (n:Int) (ao:Option Addr) (ca:Nat) (es:List (Int×Int)) (xo:Option Addr) (xc:Nat) (ls:List (List Int)) (b:Nat) (w:World) (he:ah w ao es) (hl:es.length<=4611686018427387904) (hx:bH w xo ls)
 (hg:w.heap[b]? =some (.cells #[.int .i64 n,.slice ao es.length ca] 24 (0,0))) (hr:w.heap[b+1]? =some (.cells #[.slice xo ls.length xc] 50 (0,0))):
 Calls prog 133 #[.pointer (some ⟨b,0,none⟩),.pointer (some ⟨b+1,0,none⟩)] w (eX n es ls w):=by
 obtain⟨g0,g1,-⟩:=af hg;have r0:=cell_of_one hr;have HH:=ζ (BK n ao ca es xo xc ls w he hl hx);unfold aB at HH;clear he hx hg hr;go_enter func133,ntmps133;go_wp2_with (go_at_call 134;refine HH.out.mono ?_;refine aaI ?_);refine ζ ?_;rintro e w1 ⟨hb,hp⟩;rcases hp with ⟨hc,rfl⟩|⟨hc,rfl⟩
 .have HB:=ζ hb
  have HC:=ζ hc;clear hb hc;go_wp2
  go_end0
  exact⟨HB.out,.inl ⟨HC.out,rfl⟩⟩
 .exact⟨rfl,hb,.inr ⟨hc,rfl⟩⟩
theorem MH:∀(args:Array Value) (w:World),(callFunc 133 args).run prog w= .ok (.enter 133 args) w:=enters_of func133 (by kernel_rfl) rfl
def Q6 (n:Int) (es:List (Int×Int)) (ls:List (List Int)) (w:World) (e:Ending) (w':World):Prop:=
 e= .returned (.tuple #[.int .i64 ((Ro.check n es ls).1:Int),.int .i64 (Ro.check n es ls).2])/\Below w.heap.size w w'
theorem Ky (n:Int) (ao:Option Addr) (ca:Nat) (es:List (Int×Int)) (xo:Option Addr) (xc:Nat) (ls:List (List Int)) (w:World) (he:ah w ao es) (hl:es.length<=4611686018427387904) (hx:bH w xo ls):
 Calls prog 86 #[aB n ao es.length ca,.slice xo ls.length xc] w (Q6 n es ls w):=by
 have Yg:∀(fn:Fn) (first cap:Array Value) (w:World),(Instr.makeFunc fn first cap).run prog w= .ok (.func fn first cap) w:=fun _ _ _ _=>rfl
 obtain⟨W0,hW0⟩:∃W,W=(w.alloc (.cells #[.int .i64 n,.slice ao es.length ca] 24)).alloc (.cells #[.slice xo ls.length xc] 50):=⟨_,rfl⟩;have hb0:Below w.heap.size w W0:=by rw[hW0];exact((aaG _ _).alloc (aaF _) _).alloc (by simp) _
 have hs0:W0.heap.size=w.heap.size+2:=by rw[hW0];simp
 have hg:W0.heap[w.heap.size]? =some (.cells #[.int .i64 n,.slice ao es.length ca] 24 (0,0)):=by
  rw[hW0,aa0 _ _ _ (by simp)];exact heap_alloc_new w _
 have hr:W0.heap[w.heap.size+1]? =some (.cells #[.slice xo ls.length xc] 50 (0,0)):=by
  rw[hW0];exact alloc_at (by simp)
 have hb1:Below W0.heap.size W0 (W0.alloc (.cells #[.int .i64 0,.int .i64 0] 233)):=(aaG _ _).alloc (aaF _) _;have hc1:=MK n ao ca es xo xc ls w.heap.size (W0.alloc (.cells #[.int .i64 0,.int .i64 0] 233)) ((he.later hb0).later hb1) hl ((hx.later hb0).later hb1) ((hb1.block _ (by omega)).trans hg) ((hb1.block _ (by omega)).trans hr)
 have hca:=Bh 133 #[.pointer (some ⟨w.heap.size,0,none⟩),.pointer (some ⟨w.heap.size+1,0,none⟩)] (fun W=>(Ro.check n es ls).2=0/\(Ro.check n es ls).1=0/\Below W0.heap.size W0 W) (fun v c W=>v=(Ro.check n es ls).1/\c=(Ro.check n es ls).2/\Below W0.heap.size W0 W) W0 MH
  (hc1.mono (by
    rintro e w2 ⟨hb2,hp⟩;refine⟨(hb2.block _ (by simp)).trans (heap_alloc_new W0 _),?_⟩;have hb3:=hb1.trans (hb2.mono hb1.size);rcases hp with ⟨h0,rfl⟩|⟨h0,rfl⟩
    .exact .inl ⟨rfl,h0,Ro.MJ h0,hb3⟩
    .exact .inr ⟨_,_,rfl,rfl,rfl,hb3⟩))
 have yX:=ζ hca;have aI:=ζ hb0;have FZ:=ζ hs0;unfold aB;clear he hx hg hr hb1 hc1 hca hb0 hs0;rw[hW0] at yX;have HW:=ζ hW0;clear hW0;go_enter func86,ntmps86;go_wp2_with (go_at_call 132;refine yX.out.mono ?_;refine aaI ?_);refine ζ ?_;rintro e w1 ⟨W1,hp,hw⟩;have SI:=HW.out;rw[<-SI] at hp hw;have vG:∃v c,v=(Ro.check n es ls).1/\c=(Ro.check n es ls).2/\Below W0.heap.size W0 W1/\e= .returned (.agg #[.int .i64 ((v:Nat):Int),.int .i64 c]):=by
  rcases hp with ⟨⟨h0,h1,hb⟩,rfl⟩|⟨v,c,⟨h0,h1,hb⟩,rfl⟩
  .exact⟨0,0,h1.symm,h0.symm,hb,rfl⟩
  .exact⟨v,c,h0,h1,hb,rfl⟩
 obtain⟨v,c,hv,hc,hb,rfl⟩:=vG;have dA:Below w.heap.size w w1:=by
  have h1:=aI.out.trans (hb.mono aI.out.size);refine h1.trans (hw.below h1.size fun k hk=> ?_);rw[hk,FZ.out];omega
 have HV:=ζ hv;have HC:=ζ hc;have cN:=ζ dA;clear hp hw hb dA hv hc SI;go_wp2
 go_region
 go_wp2;go_ret2;have hv:=HV.out;have hc:=HC.out;subst hv;subst hc;exact⟨rfl,(cN.out.alloc cN.out.size _).drew⟩
end
section
open Go.Proofs.Tryz
open Go.RowKit Go.Sort
theorem NR (n:Int) (ao:Option Addr) (ca:Nat) (es:List (Int×Int)) (xo:Option Addr) (xc:Nat) (ls:List (List Int)) (w:World) (he:ah w ao es) (hl:es.length<=4611686018427387904) (hx:bH w xo ls):
 Calls prog 257 #[aB n ao es.length ca,.slice xo ls.length xc] w (Py n es ls w):=by
 obtain⟨i0,hi,hz0,hz1,hz2⟩:=info_parts Tryz.cL;have hb0:Below w.heap.size w (w.alloc (.cells #[.int .i64 n,.slice ao es.length ca] 24)):=(aaG _ _).alloc (aaF _) _;have ew:=ζ (Ky n ao ca es xo xc ls _ (he.later hb0) hl (hx.later hb0));have HX:=ζ hx;have aI:=ζ hb0;unfold aB Q6 at ew;unfold aB;clear he hx hb0;have hch:Ro.check n es ls=((Ro.check n es ls).1,(Ro.check n es ls).2):=rfl;by_cases hc:(Ro.check n es ls).2=0
 .have xX:=Ro.ji.1 hc
  have hval:=Si.aL.1 xX.val;have hlo:=hval.lo;have hhi:=hval.hi;have bV:=hval.few;have hlen:=xX.len;have WB:=ζ xX;have HC:=ζ hc;rw[hc] at ew;obtain⟨cv,hcv⟩:∃cv,cv=(Ro.check n es ls).1:=⟨_,rfl⟩;rw[<-hcv] at ew;obtain⟨M,hM⟩:∃M,M=2*es.length:=⟨_,rfl⟩;have hmul:IntKind.i64.wrap (2*(es.length:Int))=(M:Int):=by rw[aaK];omega
  have Jd:2*(es.length:Int)=(M:Int):=by omega
  have hMb:M<=8388608:=by omega
  have HM:=ζ hM;clear hch hc xX hval hcv hM;go_enter func257,ntmps257;go_wp2_with (go_at_call 86;refine ew.out.mono ?_;rintro e w1 ⟨rfl,hb⟩;refine aaI ?_);refine ζ ?_;have qL:w1.heap[w.heap.size]? =some (.cells #[.int .i64 n,.slice ao es.length ca] 24 (0,0)):=(hb.block _ (by simp)).trans (heap_alloc_new w _);obtain⟨g0,g1,-⟩:=af qL;have xW:w.heap.size<w1.heap.size:=lt_of_block qL;have aD:=ζ (aI.out.trans (hb.mono aI.out.size));clear hb qL;go_wp2_with (at_make;refine wpList_make_full _ rfl _ _ 55 rfl w1.heap.size 3 i0 (.int .i64 0) 1 Tryz.underlying55 hi hz0 hz1 _ _ _ _ M rfl rfl rfl rfl (by rw[hz2];omega) (by unfold maxLen;omega) (aaF _) ?_;refine aaI ?_);refine ζ ?_;intro w2 hrow hg2;rw[dx] at hrow;have tL:=ζ (eR hrow);have hb2:Below w1.heap.size w1 w2:=(aaG _ _).grown hg2 (aaF _) (fun j hj=>by cases hj);have aA:=ζ (aD.out.trans (hb2.mono aD.out.size));clear hrow hg2 hb2 g0 g1;go_wp2;go_loopw [29] (fun c wr=>∃k:Nat,k<=ls.length/\c= .int .i64 (k:Int)/\aq wr w1.heap.size (Ro.nx ls k (List.replicate M 0))/\Below w.heap.size w wr) (fun c _=>ls.length-(intOf c).toNat)
  case atStart=>exact⟨0,aaR _,rfl,tL.out,aA.out⟩
  case round=>
   obtain⟨k,hk,rfl,hik,hb⟩:=hrel;clear tL;have HI:=ζ hik;have HB:=ζ hb;clear hik hb;by_cases hlt:k<ls.length
   .have aP:(k:Int)<(ls.length:Int):=by omega
    have hk0:(0:Int)<=(k:Int):=by omega
    obtain⟨l,hlk⟩:∃l,ls[k]? =some l:=⟨_,aaE hlt⟩;have hgd:ls.getD k []=l:=by rw[aaL,hlk];rfl
    obtain⟨b,o,A,C,rfl,hcell,hL,ny,-⟩:=HX.out k l hlk;have hbl:b<w.heap.size:=block_lt_of_cell hcell;have hcr:=(HB.out.cell (p:=⟨b,o+k,none⟩) hbl).trans hcell;have HL:=ζ hL;have fL:=ζ hlk;have E3:=ζ hcell;have uR:=ζ hgd;clear hcell hL hlk hgd;go_wp2;clear hcr;go_loopw [35] (fun c wr=>∃i:Nat,i<=l.length/\c= .int .i64 (i:Int)/\aq wr w1.heap.size (Ro.row l i (Ro.nx ls k (List.replicate M 0)))/\Below w.heap.size w wr) (fun c _=>l.length-(intOf c).toNat)
    case atStart=>exact⟨0,aaR _,rfl,HI.out,HB.out⟩
    case round=>
     clear HI HB;obtain⟨i,hil,rfl,hii,hb⟩:=hrel;have HI:=ζ hii;have HB:=ζ hb;have hcr:=(HB.out.cell (p:=⟨b,o+k,none⟩) hbl).trans E3.out;clear hii hb;by_cases uL:i<l.length
     .have Vb:(i:Int)<(l.length:Int):=by omega
      have ae6:(0:Int)<=(i:Int):=by omega
      obtain⟨x,fE⟩:∃x,l[i]? =some x:=⟨_,aaE uL⟩;obtain⟨j,rfl,hj,-⟩:=WB.out.half fL.out fE;have hjM:j<M:=by have:=HM.out;omega
      obtain⟨q,hq⟩:∃q,q=(i+1)%l.length:=⟨_,rfl⟩;have xY:q<l.length:=by rw[hq];exact acJ _ (by omega)
      have hqm:((i:Int)+1).tmod (l.length:Int)=(q:Int):=by
       rw[abR (by omega),hq];exact(ac8 (i+1) l.length).symm
      have aeF:((i:Int)+1)%(l.length:Int)=(q:Int):=by
       rw[hq];exact(ac8 (i+1) l.length).symm
      obtain⟨y,hy⟩:∃y,l[q]? =some y:=⟨_,aaE xY⟩;obtain⟨lb,lo',rfl,lc⟩:=HL.out.elem fE;obtain⟨lb',ad6,hle,Ur⟩:=HL.out.elem hy;cases hle;have yg:lb<w.heap.size:=block_lt_of_cell lc;have c1:=(HB.out.cell (p:=⟨lb,lo'+i,none⟩) yg).trans lc;have c2:=(HB.out.cell (p:=⟨lb,lo'+q,none⟩) yg).trans Ur;have hrl:(Ro.row l i (Ro.nx ls k (List.replicate M 0))).length=M:=by rw[Ro.sj,Ro.xI];simp
      obtain⟨z,hz⟩:∃z,(Ro.row l i (Ro.nx ls k (List.replicate M 0)))[j]? =some z:=⟨_,aaE (by rw[hrl];exact hjM)⟩;have c3:=HI.out.cell hz;have c4:=HI.out.free j;have jW:Hid (aq (wr.setCell ⟨w1.heap.size,j,none⟩ (.int .i64 y)) w1.heap.size (Ro.row l (i+1) (Ro.nx ls k (List.replicate M 0)))):=by
       have h1:=HI.out.set j y;have e:Ro.row l (i+1) (Ro.nx ls k (List.replicate M 0))=(Ro.row l i (Ro.nx ls k (List.replicate M 0))).set j y:=by
        show(Ro.row l i _).set (l.getD i 0).toNat (l.getD ((i+1)%l.length) 0)=_;rw[<-hq,aaL,aaL,fE,hy];rfl
       rw[e];exact h1
      have hj0:(0:Int)<=(j:Int):=by omega
      have ae3:(j:Int)<(M:Int):=by omega
      have BO:(0:Int)<=(q:Int):=by omega
      have aeH:(q:Int)<(l.length:Int):=by omega
      have hlz:((l.length:Int)==0)=false:=beq_false_of_ne (by omega);have hwq:IntKind.i64.wrap (q:Int)=(q:Int):=by rw[aaK];omega
      have hwi:IntKind.i64.wrap ((i:Int)+1)=(i:Int)+1:=by rw[aaK];omega
      clear hq hy fE lc Ur hz hrl;go_wp2;go_roundw
      case rel=>exact⟨i+1,by omega,by go_num,jW.out,by first|exact HB.out.trans (ep (g:=w1.heap.size) _ (by omega))|exact(HB.out.trans (ep (g:=w1.heap.size) _ (by omega))).drew⟩
      case measure=>simp[intOf];omega
     .have Vb:¬(i:Int)<(l.length:Int):=by omega
      obtain rfl:i=l.length:=by omega
      have jW:Hid (aq wr w1.heap.size (Ro.nx ls (k+1) (List.replicate M 0))):=by
       show aq wr w1.heap.size (Ro.row (ls.getD k []) (ls.getD k []).length _);rw[uR.out];exact HI.out
      go_wp2;go_roundw
      case rel=>exact⟨k+1,by omega,by go_num,jW.out,HB.out⟩
      case measure=>simp[intOf];omega
   .have aP:¬(k:Int)<(ls.length:Int):=by omega
    obtain rfl:k=ls.length:=by omega
    go_wp2;go_ret2;refine⟨HB.out,.inr ⟨HC.out,w1.heap.size,by rw[<-HM.out];rfl,by omega,?_⟩⟩;unfold Ro.kC;rw[<-HM.out];exact HI.out
 .obtain⟨cv,hcv⟩:∃cv,cv=(Ro.check n es ls).1:=⟨_,rfl⟩
  obtain⟨cc,hcc⟩:∃cc,cc=(Ro.check n es ls).2:=⟨_,rfl⟩;rw[<-hcv,<-hcc] at ew;rw[<-hcc] at hc;have Ak:=ζ hcc;have j1:(cc != 0)=true:=by simp[hc]
  have HNC:=ζ hc;clear hch hcv hcc hc;go_enter func257,ntmps257;go_wp2_with (go_at_call 86;refine ew.out.mono ?_;rintro e w1 ⟨rfl,hb⟩;refine aaI ?_);refine ζ ?_;have aD:=ζ (aI.out.trans (hb.mono aI.out.size));clear hb;go_wp2;go_ret2;refine⟨aD.out,.inl ⟨by rw[<-Ak.out];exact HNC.out,by rw[<-Ak.out];rfl⟩⟩
end
namespace Ro
def half (es:List (Int×Int)) (u:Nat) (v:Int):Nat->Option Nat
 |0=>none
 |k+1=>match half es u v k with
  |some h=>some h
  |none=>if Cs.fr es k=u/\(Cs.to es k:Int)=v then some k else none
theorem kM {es:List (Int×Int)} {u:Nat} {v:Int}:∀{k h:Nat},half es u v k=some h->h<k/\Cs.fr es h=u/\(Cs.to es h:Int)=v
 |k+1,h,hh=>by
  unfold half at hh
  split at hh
  .rename_i h' e
   cases hh;have:=kM e;exact⟨by omega,this.2⟩
  .split at hh
   .rename_i hc
    cases hh;exact⟨by omega,hc⟩
   .cases hh
theorem wq {es:List (Int×Int)} {u:Nat} {v:Int}:∀{k:Nat},half es u v k=none->∀h,h<k->¬(Cs.fr es h=u/\(Cs.to es h:Int)=v)
 |0,_,h,hk=>by omega
 |k+1,hh,h,hk=>by
  unfold half at hh
  split at hh
  .cases hh
  .rename_i e
   split at hh
   .cases hh
   .rename_i hc
    by_cases e2:h=k
    .subst e2;exact hc
    .exact wq e h (by omega)
theorem G7 {n:Nat} {es:List (Int×Int)} (hv:Si.Val n es) {i j:Nat} (hi:i<2*es.length) (hj:j<2*es.length) (h1:Cs.fr es i=Cs.fr es j) (h2:Cs.to es i=Cs.to es j):i=j:=by
 obtain⟨e,he,U5,hpe⟩:=qK hv hi;obtain⟨f,hf,hof,hpf⟩:=qK hv hj;have hinj:∀{a b:Nat} {p q:Int×Int},es[a]? =some p->es[b]? =some q->p=q->a=b:=fun {a b p q} ha hb hpq=>by
  subst hpq;exact hv.place ha hb
 unfold Si.ok at U5 hof;obtain⟨e1,e2⟩:=e;obtain⟨f1,f2⟩:=f;dsimp only at hpe hpf U5 hof;rcases hpe with ⟨m1,a1,a2⟩|⟨m1,a1,a2⟩<;>rcases hpf with ⟨m2,b1,b2⟩|⟨m2,b1,b2⟩
 .have:=hinj he hf (by rw[show e1=f1 by omega,show e2=f2 by omega])
  omega
 .omega
 .omega
 .have:=hinj he hf (by rw[show e1=f1 by omega,show e2=f2 by omega])
  omega
def hl (es:List (Int×Int)) (v:Nat) (x:Int):Int:=match half es v x (2*es.length) with
 |some h=>(h:Int)
 |none=> -1
def hls (es:List (Int×Int)):Nat->List (List Int)->List (List Int)
 |_,[]=>[]
 |k,l::ls=>l.map (hl es k)::hls es (k+1) ls
theorem DG (es:List (Int×Int)):∀(k:Nat) (ls:List (List Int)),(hls es k ls).length=ls.length
 |_,[]=>rfl
 |k,l::ls=>by simp[hls,DG es (k+1) ls]
theorem Je {es:List (Int×Int)}:∀{k:Nat} {ls:List (List Int)} {v:Nat} {l:List Int},ls[v]? =some l->(hls es k ls)[v]? =some (l.map (hl es (k+v)))
 |k,a::ls,0,l,h=>by
  simp at h;subst h;simp[hls]
 |k,a::ls,v+1,l,h=>by
  have:=Je (es:=es) (k:=k+1) (ls:=ls) (v:=v) (l:=l) (by simpa using h);rw[show k+1+v=k+(v+1) by omega] at this;simpa[hls] using this
theorem DI {es:List (Int×Int)} {v:Nat} {x:Int} {h:Nat} (hh:half es v x (2*es.length)=some h):hl es v x=(h:Int)/\lv es (h:Int) v=true/\h<2*es.length:=by
 obtain⟨h1,h2,h3⟩:=kM hh;refine⟨by unfold hl;rw[hh],aaV h1 h2,h1⟩
theorem Jf {es:List (Int×Int)} {v:Nat} {x:Int} (hh:half es v x (2*es.length)=none):hl es v x= -1/\lv es (-1) v=false:=by
 refine⟨by unfold hl;rw[hh],by simp[lv]⟩
theorem abA {n:Nat} {es:List (Int×Int)} (hv:Si.Val n es) {v h:Nat} {x:Int} (hh:h<2*es.length) (h1:Cs.fr es h=v) (h2:(Cs.to es h:Int)=x):half es v x (2*es.length)=some h:=by
 cases e:half es v x (2*es.length) with
 |none=>exact absurd ⟨h1,h2⟩ (wq e h hh)
 |some k=>
  obtain⟨k1,k2,k3⟩:=kM e;rw[G7 hv k1 hh (by omega) (by omega)]
theorem Yj {es:List (Int×Int)} {v:Nat} {x y:Int} {h:Nat} (hh:half es v x (2*es.length)=some h) (e:hl es v y=(h:Int)):x=y:=by
 cases ey:half es v y (2*es.length) with
 |none=>rw[(Jf ey).1] at e;omega
 |some k=>
  rw[(DI ey).1] at e;have e2:k=h:=by omega
  subst e2;have h1:=(kM hh).2.2;have h2:=(kM ey).2.2;omega
theorem Yi {es:List (Int×Int)} {v:Nat} {x:Int} {h:Nat} {pre:List Int} (hh:half es v x (2*es.length)=some h):(h:Int)∈pre.map (hl es v)↔x∈pre:=by
 constructor
 .intro hm
  obtain⟨y,hy,e⟩:=abO.1 hm;rw[Yj hh e];exact hy
 .intro hm
  rw[<-(DI hh).1];exact abO.2 ⟨x,hm,rfl⟩
end Ro
section
open Go.RowKit Go.Sort
def Xr (v:Nat) (c:Int) (hs:List (List Int)) (w:World) (e:Ending) (w':World):Prop:=
 Below w.heap.size w w'/\((c≠0/\e= .returned (.tuple #[.slice none 0 0,.int .i64 (v:Int),.int .i64 c]))\/(c=0/\∃r rs,e= .returned (.tuple #[r,.int .i64 0,.int .i64 0])/\ay w' w.heap.size r rs hs))
def lW (n:Int) (es:List (Int×Int)) (ls:List (List Int)) (w:World) (e:Ending) (w':World):Prop:=
 Xr (Ro.check n es (Ro.hls es 0 ls)).1 (Ro.check n es (Ro.hls es 0 ls)).2 (Ro.hls es 0 ls) w e w'
theorem lW.bad {n:Int} {es:List (Int×Int)} {ls:List (List Int)} {w w':World} {v:Nat} {c:Int} (hb:Below w.heap.size w w') (h:Ro.check n es (Ro.hls es 0 ls)=(v,c)) (hc:c≠0):lW n es ls w (.returned (.tuple #[.slice none 0 0,.int .i64 (v:Int),.int .i64 c])) w':=by
 refine⟨hb,.inl ?_⟩;rw[h];exact⟨hc,rfl⟩
end
end Go.Proofs.YtdbjpbjocmcpkaaGreatDoor
