import Derived.Test.YtdbjpbjocmcpkaaGreatDoorMg07
import Derived.Defers
import Derived.Recover
import Derived.ArgAppend
import Derived.Deep.DeepAppendRoom
import Derived.Test.YtdbjpbjocmcpkaaGreatDoorMg02
set_option maxHeartbeats 8000000
set_option maxRecDepth 100000
namespace Go.Proofs.YtdbjpbjocmcpkaaGreatDoor
section
open Go.RowKit
theorem Cs.nX {n:Nat} {es:List (Int×Int)} (hv:Si.Val n es):∀k,k<=es.length->∀v,v<n->(Si.aS n (es.take k))[v]? =some ((Cs.out es v (2*k)).length:Int):=by
 intro k
 induction k with
 |zero=>intro _ v hv;simp[Si.aS,Cs.out,hv]
 |succ k ih=>
  intro hk v BA;obtain⟨q,hq⟩:∃q,es[k]? =some q:=⟨_,aac (by omega)⟩;have hok:=hv.each k q hq;unfold Si.ok at hok;obtain⟨qu,qv⟩:=q;dsimp only at hok;obtain⟨a,rfl⟩:∃u:Nat,qu=(u:Int):=⟨qu.toNat,by omega⟩;obtain⟨b,rfl⟩:∃v:Nat,qv=(v:Int):=⟨qv.toNat,by omega⟩;obtain⟨e1,-⟩:=Cs.cY hq;obtain⟨e3,-⟩:=Cs.gw hq;dsimp only[Int.toNat_natCast] at e1 e3;have h1:=ih (by omega) a (by omega);have h2:=ih (by omega) b (by omega);rw[Si.gW hq,Si.uE];have hne:a≠b:=by omega
  rw[Si.nY h1,Si.nY (x:=((Cs.out es b (2*k)).length:Int)) (by rw[aaI,if_neg hne];exact h2)];have e:2*(k+1)=2*k+1+1:=by omega
  have hl:=Si.iQ n (es.take k);rw[e,Cs.eB,Cs.eB,e1,e3,aaI];by_cases hb:b=v
  .subst hb
   rw[if_pos rfl,if_pos (by simp;omega),if_neg hne,if_pos rfl]
   congr 1
  .rw[if_neg hb,if_neg hb,aaI]
   by_cases ha:a=v
   .subst ha
    rw[if_pos rfl,if_pos (by omega),if_pos rfl]
    congr 1
   .rw[if_neg ha,if_neg ha,ih (by omega) v BA]
    rfl
end
section
open Go.Proofs.Tryz
open Go.RowKit Go.Sort
def dQ (v:Nat) (c:Int):Value:= .iface 233 (.agg #[.int .i64 (v:Int),.int .i64 c])
structure iV (w:World) (B p gd gs n:Nat) (ao:Option Addr) (ca:Nat) (es:List (Int×Int)) (f:Nat->Bool):Prop where
 blk:w.heap[p]? =some (.cells #[.int .i64 (n:Int),.slice ao es.length ca,.slice (some ⟨gd,0,none⟩) n n,.slice (some ⟨gs,0,none⟩) (2*es.length) (2*es.length)] 306 (0,0))
 gG:ak w gd (Si.aS n es)
 Hx:aF w gs (2*es.length) f
 lo:B<=p/\B<=gd/\B<=gs
 ne:p≠gs/\gd≠gs/\p≠gd
theorem iV.later {w w':World} {B p gd gs n:Nat} {ao:Option Addr} {ca:Nat} {es:List (Int×Int)} {f:Nat->Bool} (h:iV w B p gd gs n ao ca es f) (hb:Below w.heap.size w w'):iV w' B p gd gs n ao ca es f:=
 ⟨(hb.block p (lt_of_block h.blk)).trans h.blk,h.gG.later hb,h.Hx.later hb,h.lo,h.ne⟩
theorem iV.keep {w w':World} {B p gd gs n:Nat} {ao:Option Addr} {ca:Nat} {es:List (Int×Int)} {f:Nat->Bool} (h:iV w B p gd gs n ao ca es f) (hb:∀b,b=p\/b=gd\/b=gs->w'.heap[b]? =w.heap[b]?):iV w' B p gd gs n ao ca es f:=
 ⟨(hb p (.inl rfl)).trans h.blk,(hb gd (.inr (.inl rfl))).trans h.gG,(hb gs (.inr (.inr rfl))).trans h.Hx,h.lo,h.ne⟩
theorem iV.set {w:World} {B p gd gs n:Nat} {ao:Option Addr} {ca:Nat} {es:List (Int×Int)} {f:Nat->Bool} (h:iV w B p gd gs n ao ca es f) (j:Nat) (y:Bool):iV (w.setCell ⟨gs,j,none⟩ (.bool y)) B p gd gs n ao ca es (Co.bS f j y):=
 ⟨(eV h.ne.1 _).trans h.blk,h.gG.lA h.ne.2.1 _,h.Hx.set j y,h.lo,h.ne⟩
theorem dF {w:World} {B g j:Nat} (x:Value) (h:B<=g):Below B w (w.setCell ⟨g,j,none⟩ x):=
 ⟨rfl,rfl,rfl,by simp,fun k hk=>heap_setCell_other w ⟨g,j,none⟩ k x (by show k≠g;omega)⟩
def MQ (B p gd gs n:Nat) (ao:Option Addr) (ca:Nat) (es:List (Int×Int)) (f:Nat->Bool) (v:Nat) (h:Int) (w:World) (e:Ending) (w':World):Prop:=
 aq (fun b=>b=gs) w w'/\((Ro.lv es h v=false/\e= .panicked [{ v:=dQ v 111,recovered:=false }])\/(Ro.lv es h v=true/\f h.toNat=true/\e= .panicked [{ v:=dQ v 112,recovered:=false }])\/
  (Ro.lv es h v=true/\f h.toNat=false/\e= .returned (.tuple #[])/\iV w' B p gd gs n ao ca es (Co.bS f h.toNat true)))
theorem AG (B p gd gs n:Nat) (ao:Option Addr) (ca:Nat) (es:List (Int×Int)) (f:Nat->Bool) (v:Nat) (h:Int) (w:World) (hr:iV w B p gd gs n ao ca es f) (he:ah w ao es) (hv:Si.Val n es):
 Calls prog 198 #[.pointer (some ⟨p,0,none⟩),.int .i64 (v:Int),.int .i64 h] w (MQ B p gd gs n ao ca es f v h w):=by
 have HL:=ζ (IU n ao ca es h v w he hv);obtain⟨c0,c1,c2,c3,-⟩:=mH hr.blk;have hpl:=lt_of_block hr.blk;have HR:=ζ hr;have bQ:=hv.few;clear hr he hv;cases hlv:Ro.lv es h v with
 |false=>
  rw[hlv] at HL;have wQ:=ζ hlv;clear hlv;go_enter func198,ntmps198;go_wp2_with (go_at_call 254;refine HL.out.mono ?_;rintro e w1 ⟨rfl,hb1⟩);exact⟨rfl,(aq.refl _ _).later hb1,.inl ⟨wQ.out,rfl⟩⟩
 |true=>
  rw[hlv] at HL;obtain⟨j,rfl,hj⟩:∃j:Nat,h=(j:Int)/\j<2*es.length:=by
   unfold Ro.lv at hlv;simp at hlv;exact⟨h.toNat,by omega,by omega⟩
  have wQ:=ζ hlv;clear hlv;have hj2:(j:Int)<2*(es.length:Int):=by omega
  have HJ:=ζ hj;clear hj;go_enter func198,ntmps198;go_wp2_with (go_at_call 254;refine HL.out.mono ?_;rintro e w1 ⟨rfl,hb1⟩;refine aaj ?_);refine ζ ?_;have hr1:=HR.out.later hb1;have aI:=ζ ((aq.refl (fun b=>b=gs) w).later hb1);clear c0 c1 c2 c3 hb1;obtain⟨c0,c1,c2,c3,-⟩:=mH hr1.blk;have cs:=hr1.Hx.cell HJ.out;have cf:=hr1.Hx.free j;have pH:=ζ hr1;clear hr1;cases hf:f j with
  |true=>
   rw[hf] at cs;go_wp2;exact⟨rfl,aI.out,.inr (.inl ⟨wQ.out,hf,rfl⟩)⟩
  |false=>
   rw[hf] at cs;have HF:=ζ hf;clear hf;go_wp2
   go_end0
   exact⟨aI.out.setCell rfl _,.inr (.inr ⟨wQ.out,HF.out,rfl,pH.out.set j true⟩)⟩
def KV (es:List (Int×Int)) (v k:Nat) (w:World) (e:Ending) (w':World):Prop:=
 w'=w/\((k<Ro.gG es v/\e= .panicked [{ v:=dQ v 113,recovered:=false }])\/(¬k<Ro.gG es v/\e= .returned (.tuple #[])))
theorem Ey (B p gd gs n:Nat) (ao:Option Addr) (ca:Nat) (es:List (Int×Int)) (f:Nat->Bool) (v k:Nat) (w:World) (hr:iV w B p gd gs n ao ca es f) (hv:Si.Val n es) (BA:v<n):
 Calls prog 199 #[.pointer (some ⟨p,0,none⟩),.int .i64 (v:Int),.int .i64 (k:Int)] w (KV es v k w):=by
 obtain⟨c0,c1,c2,c3,-⟩:=mH hr.blk;have hd:(Si.aS n es)[v]? =some (Ro.gG es v:Int):=by
  have:=Cs.nX hv es.length (aad _) v BA;rw[abW] at this;exact this
 have cd:=hr.gG.cell hd;have aaq:(v:Int)<(n:Int):=by omega
 obtain⟨D,hD⟩:∃D,D=Ro.gG es v:=⟨_,rfl⟩;unfold KV;rw[<-hD] at cd ⊢;clear hr hd hv hD;by_cases hk:k<D
 .have hk2:(k:Int)<(D:Int):=by omega
  go_enter func199,ntmps199;go_wp2;exact⟨rfl,rfl,.inl ⟨hk,rfl⟩⟩
 .have hk2:¬(k:Int)<(D:Int):=by omega
  go_enter func199,ntmps199;go_wp2
  go_end0
  exact⟨rfl,rfl⟩
end
section
open Go.Proofs.Tryz
open Go.RowKit Go.Sort
def MS (n:Int) (ao:Option Addr) (ca:Nat) (es:List (Int×Int)) (k:Nat) (w:World) (e:Ending) (w':World):Prop:=
 Below w.heap.size w w'/\((Si.valid n es=false/\e= .panicked [{ v:=dQ 0 1,recovered:=false }])\/(Si.valid n es=true/\(k:Int)≠n/\e= .panicked [{ v:=dQ 0 110,recovered:=false }])\/
  (Si.valid n es=true/\(k:Int)=n/\∃p gd gs,e= .returned (.pointer (some ⟨p,0,none⟩))/\iV w' w.heap.size p gd gs k ao ca es (fun _=>false)))
theorem qz (n:Int) (ao:Option Addr) (ca:Nat) (es:List (Int×Int)) (k:Nat) (w:World) (he:ah w ao es) (hl:es.length<=4611686018427387904):
 Calls prog 197 #[az n ao es.length ca,.int .i64 (k:Int)] w (MS n ao ca es k w):=by
 have hb0:Below w.heap.size w (w.alloc (.cells #[.int .i64 n,.slice ao es.length ca] 24)):=(aae _ _).alloc (aad _) _;have HD:=ζ (wA n ao ca es _ (he.later hb0) hl);have aH:=ζ hb0;obtain⟨i0,hi,hz0,hz1,hz2⟩:=info_parts Tryz.nR;unfold az at HD ⊢;clear he hb0;go_enter func197,ntmps197;go_wp2_with (go_at_call 173;refine HD.out.mono ?_;refine aaj ?_);refine ζ ?_;rintro e w1 ⟨hp,hb1⟩;have hG:w1.heap[w.heap.size]? =some (.cells #[.int .i64 n,.slice ao es.length ca] 24 (0,0)):=(hb1.block _ (by simp)).trans (heap_alloc_new w _);have aI:=ζ (aH.out.trans (hb1.mono aH.out.size));obtain⟨g0,g1,-⟩:=af hG;have sG:=lt_of_block hG;have hs1:(w.alloc (.cells #[.int .i64 n,.slice ao es.length ca] 24)).heap.size<=w1.heap.size:=hb1.size;rw[abk] at hs1;have HG:=ζ hG;clear hb1 hG;rcases hp with ⟨hv,g,m,rfl,rfl,hg,hint⟩|⟨hv,rfl⟩
 .have hval:=Si.aK.1 hv
  have bQ:=hval.few;have hlo:=hval.lo;have hhi:=hval.hi;have HV:=ζ hv;have HI:=ζ hint;have Mg:=hint.lt;have TJ:=ζ hg;clear hv hval hint hg;by_cases hk:k=m
  .subst hk
   obtain⟨M,hM⟩:∃M,M=2*es.length:=⟨_,rfl⟩;have hmul:IntKind.i64.wrap (2*(es.length:Int))=(M:Int):=by rw[aam];omega
   have Gl:2*(es.length:Int)=(M:Int):=by omega
   have Yx:M<=8388608:=by omega
   have PA:¬(M:Int)<0:=by omega
   have hmk:∀W,(Instr.makeSlice 237 (.int .i64 (M:Int)) (.int .i64 (M:Int))).run prog W= .ok (.slice (some ⟨W.heap.size,0,none⟩) M M) (W.alloc (.cells (madeCells #[.bool false] M) 4)):=fun W=>by
    have:=run_make (P:=prog) W 237 4 i0 (.bool false) Tryz.underlying237 hi hz0 .i64 .i64 (M:Int) (M:Int) (by omega) (by omega) (by rw[hz2];omega) (by omega);rw[this,hz1];simp[Value.cells]
   have pJ:=ζ hM;clear hM hi hz0 hz1 hz2;go_wp2_with fail
   go_region
   all_goals
    clear hmk;go_wp2;go_ret;have HH:=HI.out;have hB1:=aI.out;have hge:=TJ.out;rw[abk] at hge;obtain rfl:=pJ.out;have hA:=((hB1.alloc (by omega) (.cells (madeCells #[.bool false] (2*es.length)) 4)).alloc (by simp;omega) (.cells #[.int .i64 (k:Int),.slice ao es.length ca,.slice (some ⟨g,0,none⟩) k k,.slice (some ⟨w1.heap.size,0,none⟩) (2*es.length) (2*es.length)] 306));refine⟨?_,.inr (.inr ⟨HV.out,rfl,w1.heap.size+1,g,w1.heap.size,rfl,?_,?_,?_,?_,?_⟩)⟩
    .first|exact hA|exact hA.drew
    .exact alloc_at (by simp)
    .exact(HH.alloc _).alloc _
    .refine aF.same (jV (W:=w1) rfl (2*es.length)) ?_
     exact aaF _ _ _ (by simp)
    .exact⟨by omega,by omega,by omega⟩
    .exact⟨by omega,by omega,by omega⟩
  .have hk2:¬(k:Int)=(m:Int):=by omega
   have hk3:((k:Int) != (m:Int))=true:=by simp;omega
   have HK:=ζ hk;clear hk;go_wp2;exact⟨rfl,aI.out,.inr (.inl ⟨HV.out,hk2,rfl⟩)⟩
 .have HV:=ζ hv
  clear hv;go_wp2;exact⟨rfl,aI.out,.inl ⟨HV.out,rfl⟩⟩
end
section
open Go.RowKit Go.Sort
def ep (n:Int) (es:List (Int×Int)) (ls:List (List Int)) (w:World) (e:Ending) (w':World):Prop:=
 Below w.heap.size w w'/\(((Ro.check n es ls).2=0/\e= .returned (.tuple #[]))\/((Ro.check n es ls).2≠0/\e= .panicked [{ v:=dQ (Ro.check n es ls).1 (Ro.check n es ls).2,recovered:=false }]))
theorem ep.bad {n:Int} {es:List (Int×Int)} {ls:List (List Int)} {w w':World} {v:Nat} {c:Int} (hb:Below w.heap.size w w') (h:Ro.check n es ls=(v,c)) (hc:c≠0):ep n es ls w (.panicked [{ v:=dQ v c,recovered:=false }]) w':=by
 refine⟨hb,.inr ?_⟩;rw[h];exact⟨hc,rfl⟩
theorem zE (n:Int) (ao:Option Addr) (ca:Nat) (es:List (Int×Int)) (xo:Option Addr) (xc:Nat) (ls:List (List Int)) (w:World) (he:ah w ao es) (hl:es.length<=4611686018427387904) (hx:bA w xo ls):
 Calls Tryz.prog 134 #[az n ao es.length ca,.slice xo ls.length xc] w (ep n es ls w):=by
 have hb0:Below w.heap.size w (w.alloc (.cells #[.int .i64 n,.slice ao es.length ca] 24)):=(aae _ _).alloc (aad _) _;have HN:=ζ (qz n ao ca es ls.length _ (he.later hb0) hl);have aH:=ζ hb0;have HE:=ζ he;have HX:=ζ hx;unfold az at HN ⊢;clear he hb0 hx;go_enter Tryz.func134,Tryz.ntmps134;go_wp2_with (go_at_call 197;refine HN.out.mono ?_;refine aaj ?_);refine ζ ?_;rintro e w1 ⟨hb1,hp⟩;have aI:=ζ (aH.out.trans (hb1.mono aH.out.size));have hs1:=hb1.size;rw[abk] at hs1;clear hb1;rcases hp with ⟨hv,rfl⟩|⟨hv,hk,rfl⟩|⟨hv,rfl,p,gd,gs,rfl,hr⟩
 .exact⟨rfl,ep.bad aI.out (by simp[Ro.check,hv]) (by decide)⟩
 .exact⟨rfl,ep.bad aI.out (by simp[Ro.check,hv,hk]) (by decide)⟩
 have hck:Ro.check (ls.length:Int) es ls=Ro.fU es 0 ls:=by simp[Ro.check,hv]
 have hval:=Si.aK.1 hv;have dI:=ζ hck;have bY:=ζ hval;have hlb:=hval.hi;have HR:=ζ (show iV w1 w.heap.size p gd gs ls.length ao ca es (fun _=>false) from⟨hr.blk,hr.gG,hr.Hx,⟨by have:=hr.lo.1;simp at this;omega,by have:=hr.lo.2.1;simp at this;omega,by have:=hr.lo.2.2;simp at this;omega⟩,hr.ne⟩);clear hr hv hck hval;go_wp2;go_loopw [15] (fun c wr=>∃(k:Nat) (f:Nat->Bool) (D:List Int),k<=ls.length/\c= .int .i64 (k:Int)/\Ro.fU es 0 ls=Ro.fU es k (ls.drop k)/\Ro.Sd es f k D []/\iV wr w.heap.size p gd gs ls.length ao ca es f/\Below w.heap.size w wr) (fun c _=>ls.length-(intOf c).toNat)
 case atStart=>exact⟨0,_,[],aax _,rfl,rfl,Ro.Sd.start es,HR.out,aI.out⟩
 case round=>
  obtain⟨k,f,D,hk,rfl,hch,BF,hr,hb⟩:=hrel;clear HR;have iz:=ζ hch;have gJ:=ζ BF;have HR:=ζ hr;have HB:=ζ hb;clear hch BF hr hb;by_cases hlt:k<ls.length
  .have aQ:(k:Int)<(ls.length:Int):=by omega
   have hk0:(0:Int)<=(k:Int):=by omega
   obtain⟨l,hlk⟩:∃l,ls[k]? =some l:=⟨_,aac hlt⟩;obtain⟨b,o,A,C,rfl,hc,hL,lN⟩:=HX.out k l hlk;have hbl:b<w.heap.size:=block_lt_of_cell hc;have hcr:=(HB.out.cell (p:=⟨b,o+k,none⟩) hbl).trans hc;have HL:=ζ hL;have ew:=ζ hlk;have agL:=lN.1;clear hc hL hlk lN;go_wp2;go_loopw [22] (fun c wr=>∃(i:Nat) (f:Nat->Bool),i<=l.length/\c= .int .i64 (i:Int)/\Ro.fA es k [] l=Ro.fA es k (l.take i) (l.drop i)/\Ro.Sd es f k D (l.take i)/\iV wr w.heap.size p gd gs ls.length ao ca es f/\Below w.heap.size w wr) (fun c _=>l.length-(intOf c).toNat)
   case atStart=>exact⟨0,f,aax _,rfl,rfl,gJ.out,HR.out,HB.out⟩
   case round=>
    clear HR HB gJ hcr;obtain⟨i,f,hi,rfl,hel,BF,hr,hb⟩:=hrel;have pN:=ζ hel;have gJ:=ζ BF;have HR:=ζ hr;have HB:=ζ hb;clear hel BF hr hb;by_cases hil:i<l.length
    .have BN:(i:Int)<(l.length:Int):=by omega
     have mj:(0:Int)<=(i:Int):=by omega
     obtain⟨h,hh⟩:∃h,l[i]? =some h:=⟨_,aac hil⟩;obtain⟨lb,lo',rfl,lc⟩:=HL.out.elem hh;have wh:lb<w.heap.size:=block_lt_of_cell lc;have hlc:=(HB.out.cell (p:=⟨lb,lo'+i,none⟩) wh).trans lc;have HST:=ζ (AG w.heap.size p gd gs ls.length ao ca es f k h wr HR.out (HE.out.later HB.out) bY.out);have HH:=ζ hh;clear hh lc;go_wp2_with (go_at_call 198;refine HST.out.mono ?_;refine aaj ?_);refine ζ ?_;rintro e w2 ⟨hw2,hp⟩;have hb2:=hw2.below HB.out.size (B:=w.heap.size) (fun k hk=>by rw[hk];exact HR.out.lo.2.2);have aB:=ζ (HB.out.trans hb2);clear hw2;clear hb2;rcases hp with ⟨hlv,rfl⟩|⟨hlv,hf,rfl⟩|⟨hlv,hf,rfl,hr2⟩
     .refine⟨rfl,ep.bad aB.out ?_ (by decide)⟩
      rw[dI.out,iz.out,Ro.drop_cons ew.out];exact Ro.eU (Ro.jN (by rw[pN.out,Ro.drop_cons HH.out,Ro.nW hlv]) (by decide)) (by decide)
     .obtain⟨j,rfl,-,-⟩:=Ro.rR hlv
      refine⟨rfl,ep.bad aB.out ?_ (by decide)⟩;rw[dI.out,iz.out,Ro.drop_cons ew.out];exact Ro.eU (Ro.jN (by rw[pN.out,Ro.drop_cons HH.out,Ro.lV hlv ((gJ.out.twice hlv).1 hf)]) (by decide)) (by decide)
     .obtain⟨j,rfl,-,-⟩:=Ro.rR hlv
      have C5:=ζ (show Ro.fA es k [] l=Ro.fA es k (l.take (i+1)) (l.drop (i+1)) by
       rw[pN.out,Ro.drop_cons HH.out,Ro.rX hlv (fun h=>by have h2:=(gJ.out.twice hlv).2 h;rw[abz,h2] at hf;cases hf),Ro.dw HH.out])
      have KF:=ζ (show Ro.Sd es (Co.bS f j true) k D (l.take (i+1)) by rw[Ro.dw HH.out];exact gJ.out.put hlv);have oh:=ζ hr2;clear hlv hf hr2;go_wp2;go_roundw
      case rel=>exact⟨i+1,_,by omega,by go_num,C5.out,KF.out,oh.out,aB.out⟩
      case measure=>simp[intOf];omega
    .have BN:¬(i:Int)<(l.length:Int):=by omega
     obtain rfl:i=l.length:=by omega
     have TM:=ζ (Ey w.heap.size p gd gs ls.length ao ca es f k l.length wr HR.out bY.out hlt);have rA:=ζ (show Ro.fA es k [] l=0 by rw[pN.out];simp[Ro.fA]);go_wp2_with (go_at_call 199;refine TM.out.mono ?_;refine aaj ?_);refine ζ ?_;rintro e w2 ⟨hw2,hp⟩;obtain rfl:=hw2.symm;rcases hp with ⟨hd,rfl⟩|⟨hd,rfl⟩
     .refine⟨rfl,ep.bad HB.out ?_ (by decide)⟩
      rw[dI.out,iz.out,Ro.drop_cons ew.out];exact Ro.eU (Ro.kE rA.out hd) (by decide)
     .have C6:=ζ (show Ro.fU es 0 ls=Ro.fU es (k+1) (ls.drop (k+1)) by
       rw[iz.out,Ro.drop_cons ew.out,Ro.wF (Ro.vp rA.out hd)])
      have KF:=ζ (by have:=gJ.out.next;exact this);clear hd;go_wp2;go_roundw
      case rel=>exact⟨k+1,f,_,by omega,by go_num,C6.out,KF.out,HR.out,HB.out⟩
      case measure=>simp[intOf];omega
  .have aQ:¬(k:Int)<(ls.length:Int):=by omega
   obtain rfl:k=ls.length:=by omega
   go_wp2
   go_end0
   refine⟨HB.out,.inl ⟨?_,rfl⟩⟩;rw[dI.out,iz.out];simp[Ro.fU]
end
section
open Go.Proofs.Tryz
open Go.RowKit Go.Sort
theorem FM (p:Addr) (w:World):
 CallsD prog 196 #[.pointer (some p)] .returning w fun e u' w'=>e= .returned (.tuple #[])/\u'= .returning/\w'=w:=by
 refine callsD_of_wpS func196 rfl fun c₀ cs hu=> ?_
 apply wpS_seq;apply wpS_region;simp[wpOpsS,go_sem,recoverD,hu,ntmps196,Exit.thenS];refine wpS_of_wp ?_;go_wp2;cases c₀
 simp_all[bodyPostS,results,results196]
def nw (w:World) (b:Nat) (v c:Int):Prop:=w.heap[b]? =some (.cells #[.int .i64 v,.int .i64 c] 233 (0,0))
def AX (w:World) (b:Nat) (v c:Int):World:=(w.setCell ⟨b,0,none⟩ (.int .i64 v)).setCell ⟨b,1,none⟩ (.int .i64 c)
theorem nw.put {w:World} {b:Nat} {v c:Int} (h:nw w b v c) (v' c':Int):nw (AX w b v' c') b v' c':=by
 unfold nw AX at*;rw[heap_setCell_same _ b 1 _ _ _ (heap_setCell_same w b 0 _ _ _ h)];rfl
theorem Il (w:World) {b k:Nat} (v c:Int) (h:k≠b):(AX w b v c).heap[k]? =w.heap[k]? :=by
 unfold AX;rw[heap_setCell_other _ ⟨b,1,none⟩ k _ h,heap_setCell_other _ ⟨b,0,none⟩ k _ h]
theorem Lv (w:World) (b:Nat) (v c:Int):(AX w b v c).heap.size=w.heap.size:=by simp[AX]
theorem yA (w:World) (b:Nat) (v c:Int):aq (fun k=>k=b) w (AX w b v c):=
 ⟨rfl,rfl,rfl,by rw[Lv];exact aad _,fun k _ hk=>Il w v c hk⟩
theorem Dk (b:Nat) (v0 c0:Int) (v:Nat) (c:Int) (w:World) (hr:nw w b v0 c0):
 CallsD prog 196 #[.pointer (some ⟨b,0,none⟩)] (.panicking [{ v:=dQ v c,recovered:=false }]) w fun e u' w'=>
  e= .returned (.tuple #[])/\u'= .panicking [{ v:=dQ v c,recovered:=true }]/\nw w' b (v:Int) c/\aq (fun k=>k=b) w w':=by
 obtain⟨d0,d1,d2⟩:=af hr;have hbl:=lt_of_block hr;have Gh:∀(x:Value) (w:World),(Instr.typeAssert (.iface 233 x) 20 233 true).run prog w= .ok (.tuple #[x,.bool true]) w:=fun _ _=>by kernel_rfl
 have hnil:∀(x:Value) (w:World),(binOp .eql 20 (.iface 233 x) .nilIface).run prog w= .ok (.bool false) w:=fun _ _=>by kernel_rfl
 refine callsD_of_wpS func196 rfl fun c₀ cs hu=> ?_
 unfold dQ at hu ⊢;apply wpS_seq;apply wpS_region;simp[wpOpsS,go_sem,recoverD,hu,ntmps196,Exit.thenS,Array.replicate];refine wpS_of_wp ?_;have HR:=ζ hr;clear hr;go_wp2;refine⟨rfl,_,rfl,.tuple #[],by simp[results,results196],rfl,rfl,?_,(yA w b v c).alloc _⟩;unfold nw;rw[aaF _ _ _ (by simpa using hbl)];exact HR.out.put (v:Int) c
def KX (b:Nat) (K0:World->Prop) (K1:Nat->Int->World->Prop) (e:Ending) (w':World):Prop:=
 ∃W1,((K0 W1/\e= .returned (.agg #[.int .i64 0,.int .i64 0]))\/∃v c,K1 v c W1/\e= .returned (.agg #[.int .i64 (v:Nat),.int .i64 c]))/\aq (fun k=>k=b) W1 w'
theorem vB (tmps:Array Value) (W:World) (b:Nat) (v c:Int) (h2:tmps.getD 2 undef= .pointer (some ⟨b,0,none⟩)) (hr:nw W b v c):
 (results Tryz.f132 tmps).run prog W= .ok (.agg #[.int .i64 v,.int .i64 c]) W:=
 results_cell_row (p:=2) (ty:=233) results132 tmps W b 233 _ (0,0) _ h2 hr Tryz.underlying233 rfl (by kernel_rfl)
theorem zh (kf:Nat) (bs:Array Value) (K0:World->Prop) (K1:Nat->Int->World->Prop) (w:World)
 (hent:∀(args:Array Value) (w:World),(callFunc kf args).run prog w= .ok (.enter kf args) w)
 (Sl:Calls prog kf bs (w.alloc (.cells #[.int .i64 0,.int .i64 0] 233)) fun e w'=>nw w' w.heap.size 0 0/\((e= .returned (.tuple #[])/\K0 w')\/∃v c,e= .panicked [{ v:=dQ v c,recovered:=false }]/\K1 v c w')):
 Calls prog 132 #[.func (.func kf) #[] bs] w (KX w.heap.size K0 K1):=by
 have XR:∀(fn:Fn) (first cap:Array Value) (w:World),(Instr.makeFunc fn first cap).run prog w= .ok (.func fn first cap) w:=fun _ _ _ _=>rfl
 have HC:=ζ Sl;clear Sl
 go_enter_defers func132,ntmps132
 go_wp2_with (go_at_fn kf;(try simp only[Array.empty_append]);refine HC.out.mono ?_;refine aaj ?_);refine ζ ?_;rintro e w1 ⟨hf,hp⟩;rcases hp with ⟨rfl,hk⟩|⟨v,c,rfl,hk⟩
 .obtain⟨d0,d1,d2⟩:=af hf
  have HF:=ζ hf;have HK:=ζ hk;clear hf hk;go_wp2;refine leaves_cons (f:=196) (args:= #[.pointer (some ⟨w.heap.size,0,none⟩)]) (by simp) (by simp[go_sem]) ?_;refine(FM _ _).mono ?_;rintro e u' w3 ⟨rfl,rfl,rfl⟩;exact⟨_,vB _ _ w.heap.size _ _ rfl (HF.out.put 0 0),w1,.inl ⟨HK.out,rfl⟩,yA _ _ _ _⟩
 .refine leaves_cons (f:=196) (args:= #[.pointer (some ⟨w.heap.size,0,none⟩)]) (by simp) (by simp[go_sem]) ?_
  refine(Dk w.heap.size _ _ v c w1 hf).mono ?_;rintro e u' w3 ⟨rfl,rfl,LX,hb3⟩;exact⟨_,vB _ _ w.heap.size _ _ rfl LX,w1,.inr ⟨v,c,hk,rfl⟩,hb3⟩
end
section
open Go.Proofs.Tryz
open Go.RowKit Go.Sort
theorem Ki (n:Int) (ao:Option Addr) (ca:Nat) (es:List (Int×Int)) (xo:Option Addr) (xc:Nat) (ls:List (List Int)) (b:Nat) (w:World) (he:ah w ao es) (hl:es.length<=4611686018427387904) (hx:bA w xo ls)
 (hg:w.heap[b]? =some (.cells #[.int .i64 n,.slice ao es.length ca] 24 (0,0))) (hr:w.heap[b+1]? =some (.cells #[.slice xo ls.length xc] 50 (0,0))):
 Calls prog 133 #[.pointer (some ⟨b,0,none⟩),.pointer (some ⟨b+1,0,none⟩)] w (ep n es ls w):=by
 obtain⟨g0,g1,-⟩:=af hg;have r0:=cell_of_one hr;have HH:=ζ (zE n ao ca es xo xc ls w he hl hx);unfold az at HH;clear he hx hg hr;go_enter func133,ntmps133;go_wp2_with (go_at_call 134;refine HH.out.mono ?_;refine aaj ?_);refine ζ ?_;rintro e w1 ⟨hb,hp⟩;rcases hp with ⟨hc,rfl⟩|⟨hc,rfl⟩
 .have HB:=ζ hb
  have HC:=ζ hc;clear hb hc;go_wp2
  go_end0
  exact⟨HB.out,.inl ⟨HC.out,rfl⟩⟩
 .exact⟨rfl,hb,.inr ⟨hc,rfl⟩⟩
theorem Kf:∀(args:Array Value) (w:World),(callFunc 133 args).run prog w= .ok (.enter 133 args) w:=enters_of func133 (by kernel_rfl) rfl
def Oi (n:Int) (es:List (Int×Int)) (ls:List (List Int)) (w:World) (e:Ending) (w':World):Prop:=
 e= .returned (.tuple #[.int .i64 ((Ro.check n es ls).1:Int),.int .i64 (Ro.check n es ls).2])/\Below w.heap.size w w'
theorem Ik (n:Int) (ao:Option Addr) (ca:Nat) (es:List (Int×Int)) (xo:Option Addr) (xc:Nat) (ls:List (List Int)) (w:World) (he:ah w ao es) (hl:es.length<=4611686018427387904) (hx:bA w xo ls):
 Calls prog 86 #[az n ao es.length ca,.slice xo ls.length xc] w (Oi n es ls w):=by
 have XR:∀(fn:Fn) (first cap:Array Value) (w:World),(Instr.makeFunc fn first cap).run prog w= .ok (.func fn first cap) w:=fun _ _ _ _=>rfl
 obtain⟨W0,hW0⟩:∃W,W=(w.alloc (.cells #[.int .i64 n,.slice ao es.length ca] 24)).alloc (.cells #[.slice xo ls.length xc] 50):=⟨_,rfl⟩;have hb0:Below w.heap.size w W0:=by rw[hW0];exact((aae _ _).alloc (aad _) _).alloc (by simp) _
 have hs0:W0.heap.size=w.heap.size+2:=by rw[hW0];simp
 have hg:W0.heap[w.heap.size]? =some (.cells #[.int .i64 n,.slice ao es.length ca] 24 (0,0)):=by
  rw[hW0,aaF _ _ _ (by simp)];exact heap_alloc_new w _
 have hr:W0.heap[w.heap.size+1]? =some (.cells #[.slice xo ls.length xc] 50 (0,0)):=by
  rw[hW0];exact alloc_at (by simp)
 have hb1:Below W0.heap.size W0 (W0.alloc (.cells #[.int .i64 0,.int .i64 0] 233)):=(aae _ _).alloc (aad _) _;have hc1:=Ki n ao ca es xo xc ls w.heap.size (W0.alloc (.cells #[.int .i64 0,.int .i64 0] 233)) ((he.later hb0).later hb1) hl ((hx.later hb0).later hb1) ((hb1.block _ (by omega)).trans hg) ((hb1.block _ (by omega)).trans hr)
 have hca:=zh 133 #[.pointer (some ⟨w.heap.size,0,none⟩),.pointer (some ⟨w.heap.size+1,0,none⟩)] (fun W=>(Ro.check n es ls).2=0/\(Ro.check n es ls).1=0/\Below W0.heap.size W0 W) (fun v c W=>v=(Ro.check n es ls).1/\c=(Ro.check n es ls).2/\Below W0.heap.size W0 W) W0 Kf
  (hc1.mono (by
    rintro e w2 ⟨hb2,hp⟩;refine⟨(hb2.block _ (by simp)).trans (heap_alloc_new W0 _),?_⟩;have hb3:=hb1.trans (hb2.mono hb1.size);rcases hp with ⟨h0,rfl⟩|⟨h0,rfl⟩
    .exact .inl ⟨rfl,h0,Ro.Kh h0,hb3⟩
    .exact .inr ⟨_,_,rfl,rfl,rfl,hb3⟩))
 have sR:=ζ hca;have aH:=ζ hb0;have D7:=ζ hs0;unfold az;clear he hx hg hr hb1 hc1 hca hb0 hs0;rw[hW0] at sR;have HW:=ζ hW0;clear hW0;go_enter func86,ntmps86;go_wp2_with (go_at_call 132;refine sR.out.mono ?_;refine aaj ?_);refine ζ ?_;rintro e w1 ⟨W1,hp,hw⟩;have Py:=HW.out;rw[<-Py] at hp hw;have BQ:∃v c,v=(Ro.check n es ls).1/\c=(Ro.check n es ls).2/\Below W0.heap.size W0 W1/\e= .returned (.agg #[.int .i64 ((v:Nat):Int),.int .i64 c]):=by
  rcases hp with ⟨⟨h0,h1,hb⟩,rfl⟩|⟨v,c,⟨h0,h1,hb⟩,rfl⟩
  .exact⟨0,0,h1.symm,h0.symm,hb,rfl⟩
  .exact⟨v,c,h0,h1,hb,rfl⟩
 obtain⟨v,c,hv,hc,hb,rfl⟩:=BQ;have cm:Below w.heap.size w w1:=by
  have h1:=aH.out.trans (hb.mono aH.out.size);refine h1.trans (hw.below h1.size fun k hk=> ?_);rw[hk,D7.out];omega
 have HV:=ζ hv;have HC:=ζ hc;have cH:=ζ cm;clear hp hw hb cm hv hc Py;go_wp2
 go_region
 go_wp2;go_ret2;have hv:=HV.out;have hc:=HC.out;subst hv;subst hc;exact⟨rfl,(cH.out.alloc cH.out.size _).drew⟩
end
section
open Go.RowKit
section
variable {w w':World} {B:Nat} {v:Value} {vs:List Value} {ls:List (List Int)}
def cC (vs:List Value) (b:Nat):Prop:=∃(u:Nat) (x:Value),vs[u]? =some x/\x.ownBlock=some b
theorem ay.kept (h:ay w B v vs ls) (hb:∀b,(v.ownBlock=some b\/cC vs b)->b<w.heap.size->w'.heap[b]? =w.heap[b]?):ay w' B v vs ls:=
 ⟨h.len,bV h.outer fun g hg _ hl=>hb g (.inl hg) hl,fun u x l hx hl=>(h.row u x l hx hl).same fun g hg hlt=>hb g (.inr ⟨u,x,hx,hg⟩) hlt,h.apart,h.far⟩
end
end
namespace Ro
def row (l:List Int):Nat->List Int->List Int
 |0,acc=>acc
 |k+1,acc=>(row l k acc).set (l.getD k 0).toNat (l.getD ((k+1)%l.length) 0)
def nx (ls:List (List Int)):Nat->List Int->List Int
 |0,acc=>acc
 |k+1,acc=>row (ls.getD k []) (ls.getD k []).length (nx ls k acc)
def jy (es:List (Int×Int)) (ls:List (List Int)):List Int:=nx ls ls.length (List.replicate (2*es.length) 0)
theorem qq (l:List Int):∀k acc,(row l k acc).length=acc.length
 |0,_=>rfl
 |k+1,acc=>by
  unfold row;rw[acJ,qq l k]
theorem vM (ls:List (List Int)):∀k acc,(nx ls k acc).length=acc.length
 |0,_=>rfl
 |k+1,acc=>by
  unfold nx;rw[qq,vM ls k]
theorem Bf (es:List (Int×Int)) (ls:List (List Int)):(jy es ls).length=2*es.length:=by
 unfold jy;rw[vM];simp
theorem NV {es:List (Int×Int)} {v:Nat}:∀{t pre:List Int},fA es v pre t=0->(∀x∈t,lv es x v=true)/\t.Nodup/\∀x∈t,x∉pre
 |[],pre,_=>⟨fun x hx=>by simp at hx,List.nodup_nil,fun x hx=>by simp at hx⟩
 |h::t,pre,h0=>by
  cases hl:lv es h v with
  |false=>rw[nW hl] at h0;cases h0
  |true=>
   by_cases hp:h∈pre
   .rw[lV hl hp] at h0;cases h0
   .rw[rX hl hp] at h0
    obtain⟨i1,i2,i3⟩:=NV h0;refine⟨fun x hx=> ?_,?_,fun x hx=> ?_⟩
    .rcases aaU.1 hx with rfl|hx
     .exact hl
     .exact i1 x hx
    .rw[aef]
     exact⟨fun hm=>i3 h hm (by simp),i2⟩
    .rcases aaU.1 hx with rfl|hx
     .exact hp
     .intro hm
      exact i3 x hx (by simp[hm])
theorem NW {es:List (Int×Int)} {v:Nat}:∀{t pre:List Int},(∀x∈t,lv es x v=true)->t.Nodup->(∀x∈t,x∉pre)->fA es v pre t=0
 |[],_,_,_,_=>rfl
 |h::t,pre,h1,h2,h3=>by
  rw[aef] at h2;rw[rX (h1 h (by simp)) (h3 h (by simp))];refine NW (fun x hx=>h1 x (by simp[hx])) h2.2 fun x hx hm=> ?_
  rcases abG.1 hm with h4|h4
  .exact h3 x (by simp[hx]) h4
  .rw[abg] at h4
   subst h4;exact h2.1 hx
structure pE (es:List (Int×Int)) (v:Nat) (l:List Int):Prop where
 lv:∀x∈l,lv es x v=true
 once:l.Nodup
 all:gG es v<=l.length
theorem Hi {es:List (Int×Int)} {v:Nat} {l:List Int}:wY es v l=0↔pE es v l:=by
 constructor
 .intro h
  unfold wY at h
  split at h
  .rename_i h1;exact absurd h h1
  .rename_i h1
   have h1:fA es v [] l=0:=by simpa using h1
   obtain⟨a,b,-⟩:=NV h1
   split at h
   .cases h
   .exact⟨a,b,by omega⟩
 .intro h
  exact vp (NW h.lv h.once fun x _ hx=>by simp at hx) (by have:=h.all;omega)
theorem Cx {es:List (Int×Int)}:∀{k:Nat} {ls:List (List Int)},(fU es k ls).2=0↔∀v l,ls[v]? =some l->pE es (k+v) l
 |k,[]=>by simp[fU]
 |k,l::ls=>by
  by_cases h0:wY es k l=0
  .rw[wF h0,Cx]
   constructor
   .intro h v m hm
    cases v with
    |zero=>simp at hm;subst hm;exact Hi.1 h0
    |succ v=>
     have:=h v m (by simpa using hm);rwa[show k+1+v=k+(v+1) by omega] at this
   .intro h v m hm
    have:=h (v+1) m (by simpa using hm);rwa[show k+(v+1)=k+1+v by omega] at this
  .rw[eU rfl h0]
   constructor
   .intro h;exact absurd h h0
   .intro h
    have:=h 0 l rfl;exact absurd (Hi.2 this) h0
structure jc (n:Int) (es:List (Int×Int)) (ls:List (List Int)):Prop where
 val:Si.valid n es=true
 len:(ls.length:Int)=n
 each:∀v l,ls[v]? =some l->pE es v l
theorem ig {n:Int} {es:List (Int×Int)} {ls:List (List Int)}:(check n es ls).2=0↔jc n es ls:=by
 unfold check;constructor
 .intro h
  split at h
  .rename_i hv
   split at h
   .cases h
   .rename_i hl
    have hl:(ls.length:Int)=n:=by omega
    have:=Cx.1 h;exact⟨hv,hl,fun v l hvl=>by have:=this v l hvl;rwa[abI] at this⟩
  .cases h
 .intro h
  rw[if_pos h.val,if_neg (by have:=h.len;omega),Cx];intro v l hvl;rw[abI];exact h.each v l hvl
theorem jc.half {n:Int} {es:List (Int×Int)} {ls:List (List Int)} (h:jc n es ls) {v i:Nat} {l:List Int} {x:Int} (hl:ls[v]? =some l) (hx:l[i]? =some x):∃j:Nat,x=(j:Int)/\j<2*es.length/\Cs.fr es j=v:=
 rR ((h.each v l hl).lv x (aai hx))
end Ro
section
open Go.RowKit
section
variable {W W1:World} {B:Nat} {vs:List Value} {ls:List (List Int)}
theorem ay.Ue {u g c K B':Nat} {x':Value} {l':List Int} (h:ay W1 B (.slice (some ⟨g,0,none⟩) K c) vs ls) (hls:ls.length=K) (hu:u<K) (hg':g<B') (dB:∀(a:Nat) (y:Value) (b:Nat),vs[a]? =some y->y.ownBlock=some b->b<B') (hown:aj W1 B' x' l') (hB:B<=B'):
 (∃y,W1.cell? ⟨g,u,none⟩=some y)/\W1.frozen? ⟨g,u,none⟩=false/\ay (W1.setCell ⟨g,u,none⟩ x') B (.slice (some ⟨g,0,none⟩) K c) (vs.set u x') (ls.set u l')/\Below B W1 (W1.setCell ⟨g,u,none⟩ x'):=by
 subst hls;have h1:=h;have oI:u<vs.length:=by rw[h.len];exact hu
 obtain⟨hgB,Mg⟩:=aap h.outer g rfl;have hst:=h1.outer.stored u x';have hc:=aco h1.outer (g:=g) rfl u _ (aac oI);have ea:((⟨g,0,none⟩:Addr).add u)=⟨g,u,none⟩:=by
  by_cases h0:u=0<;>simp[Addr.add,h0]
 rw[ea] at hc;have hat:∀b,x'.ownBlock=some b->B'<=b:=fun b hb=>(aap hown b hb).1
 have VM:∀b,b≠g->(W1.setCell ⟨g,u,none⟩ x').heap[b]? =W1.heap[b]? :=fun b hb=>heap_setCell_other W1 ⟨g,u,none⟩ b x' hb
 have hold:=dB;refine⟨⟨_,hc⟩,h1.outer.frozenAt u,⟨by simp[h.len],by rw[acJ];exact hst.1,fun a y k ha hk=> ?_,fun a a' y y' b hne ha ha' hb=> ?_,fun a y b ha hb=> ?_⟩,?_⟩
 .rw[aaI] at ha hk
  by_cases e:u=a
  .subst e
   rw[if_pos rfl,if_pos oI] at ha;rw[if_pos rfl,if_pos hu] at hk;cases ha;cases hk;refine(hown.lower hB).same fun b hb _=>VM b (fun e=> ?_)
   have:=hat b hb;omega
  .rw[if_neg e] at ha hk
   exact(h1.row a y k ha hk).same fun b hb hl=>VM b (fun e=>h.far a y b ha hb (by rw[e];rfl))
 .rw[aaI] at ha ha'
  by_cases e:u=a
  .subst e
   rw[if_pos rfl,if_pos oI] at ha;cases ha;rw[if_neg hne] at ha';intro hc;have:=hold a' y' b ha' hc;have:=hat b hb;omega
  .rw[if_neg e] at ha
   by_cases e':u=a'
   .subst e'
    rw[if_pos rfl,if_pos oI] at ha';cases ha';intro hc;have:=hold a y b ha hb;have:=hat b hc;omega
   .rw[if_neg e'] at ha'
    exact h.apart a a' y y' b hne ha ha' hb
 .rw[aaI] at ha
  by_cases e:u=a
  .subst e
   rw[if_pos rfl,if_pos oI] at ha;cases ha;intro hc;obtain rfl:g=b:=by simpa[Value.ownBlock] using hc
   have:=hat g hb;omega
  .rw[if_neg e] at ha
   exact h.far a y b ha hb
 .exact(aae B W1).setCell (p:=⟨g,u,none⟩) hgB x'
theorem ay.made {g n:Nat} (h:W.ownsRow B 55 1 (.slice (some ⟨g,0,none⟩) n n) n (madeCells #[.slice none 0 0] n).toList):ay W B (.slice (some ⟨g,0,none⟩) n n) (List.replicate n (.slice none 0 0)) (List.replicate n []):=by
 rw[toList_madeCells_one] at h;refine⟨by simp,by rw[acC];exact h,fun u x l hx hl=> ?_,fun u u' x x' b _ hx _ hb=> ?_,fun u x b hx hb=> ?_⟩
 .have hx:=acL (aai hx)
  have hl:=acL (aai hl);subst hx;subst hl;exact aj.nil _ _
 .have hx:=acL (aai hx)
  subst hx;cases hb
 .have hx:=acL (aai hx)
  subst hx;cases hb
theorem ay.rws {w:World} {v:Value} (h:ay w B v vs ls) (hl:∀l∈ls,l.length<=17592186043904):∃xo xc,v= .slice xo ls.length xc/\bA w xo ls/\ls.length<=xc:=by
 obtain⟨ao,c,e⟩:=bG h;subst e;refine⟨ao,c,rfl,fun u l hu=> ?_,?_⟩
 .obtain⟨x,hx⟩:=h.at' hu
  have hlt:0<ls.length:=by have:=(aah.1 hu).1;omega
  obtain⟨g,c',e⟩:=OB h hlt;cases e;have hc:=aco h.outer (g:=g) rfl u x hx;have ea:((⟨g,0,none⟩:Addr).add u)=⟨g,0+u,none⟩:=by
   by_cases h0:u=0<;>simp[Addr.add,h0]
  rw[ea] at hc;have hrow:=h.row u x l hx hu;obtain⟨A,C,rfl,hL,-⟩:=hrow.sD;refine⟨g,0,A,C,rfl,hc,hL,hl l (aai hu),?_⟩;rcases hrow.2 with ⟨h',h0⟩|⟨g',cap,cur,h',_,_,hlc,hm,_⟩
  .obtain⟨-,-,hc0⟩:=Value.slice.inj h'
   exact⟨by omega,by omega⟩
  .cases h';exact⟨hlc,by unfold maxLen at hm;omega⟩
 .rcases h.outer.2 with ⟨h',h0⟩|⟨g',cap,cur,h',_,_,hlc,_⟩
  .rw[h0];exact aax _
  .cases h';exact hlc
end
namespace Ro
def fill (f:List Int->List Int) (ls:List (List Int)) (k:Nat):List (List Int):=(ls.take k).map f++List.replicate (ls.length-k) []
theorem PJ (f:List Int->List Int) (ls:List (List Int)) {k:Nat} (h:k<=ls.length):(fill f ls k).length=ls.length:=by simp[fill];omega
theorem Mv (f:List Int->List Int) (ls:List (List Int)):fill f ls 0=List.replicate ls.length []:=by simp[fill]
theorem PL (f:List Int->List Int) (ls:List (List Int)):fill f ls ls.length=ls.map f:=by simp[fill]
theorem PI {f:List Int->List Int} {ls:List (List Int)} {k:Nat} {l:List Int} (h:ls[k]? =some l):(fill f ls k).set k (f l)=fill f ls (k+1):=by
 have hk:=(aah.1 h).1;refine ab4 fun j=> ?_
 unfold fill;rw[aaI,List.getElem?_append,List.getElem?_append];simp only[aaE,abu,aar,acC,aaP,aci,acj];have m1:min k ls.length=k:=by omega
 have m2:min (k+1) ls.length=k+1:=by omega
 rw[m1,m2];by_cases e:k=j
 .subst e
  rw[if_pos rfl,if_pos (by omega),if_pos (by omega),if_pos (by omega),h];rfl
 .rw[if_neg e]
  by_cases h1:j<k
  .rw[if_pos h1,if_pos h1,if_pos (by omega:j<k+1),if_pos (by omega:j<k+1)]
  .rw[if_neg h1,if_neg (by omega:¬j<k+1)]
   have e1:(j-k<ls.length-k)↔(j-(k+1)<ls.length-(k+1)):=by omega
   by_cases h2:j-k<ls.length-k
   .rw[if_pos h2,if_pos (e1.1 h2)]
   .rw[if_neg h2,if_neg (fun h3=>h2 (e1.2 h3))]
end Ro
end
section
open Go.RowKit
def Qb (ls:List (List Int)) (w:World) (e:Ending) (w':World):Prop:=∃v vs,e= .returned v/\ay w' w.heap.size v vs ls/\Below w.heap.size w w'
theorem zy {ops:Array Oper} {rest:List Oper} {o:Oper} {a:Act} {Q:Exit->Act->World->Prop} (hgd:o.guard=none) (s x:Operand) (T:TypeId) (hT:Tryz.prog.underlying T=some (.slice 55))
 (ho:o.op= .call { callee:= .builtin .append,args:= #[s,x],argTypes:= #[T,T] }) (W0 W:World) (B:Nat) (v:Value) (vs:List Value) (ls:List (List Int)) (y:Value) (l:List Int) (hr:ay W0 B v vs ls) (hb:Below W0.heap.size W0 W)
 (hy:aj W W0.heap.size y l) (hB:B<=W0.heap.size) (hl:ls.length<=5864062014804) (hs:a.eval s=v) (hx:a.eval x= .slice (some ⟨W.heap.size,0,none⟩) 1 1)
 (h:∀v' w',ay w' B v' (vs++[y]) (ls++[l])->Below B W0 w'->wpList Tryz.prog ops Q rest (a.put o.dst v') w'):
 wpList Tryz.prog ops Q (o::rest) a (W.alloc (.cells #[y] 55)):=by
 obtain⟨i0,hi,hz0,hz1,hz2⟩:=info_parts Tryz.lK;have hW:=hb.size;have hr1:ay W B v vs ls:=hr.later hb;have hb0:Below B W (W.alloc (.cells #[y] 55)):=(aae _ _).alloc (by omega) _;have Xo:∃ao c,y= .slice ao l.length c:=by
  obtain⟨ao,c,e,-⟩:=hy.form;exact⟨ao,c,e⟩
 obtain⟨yo,yc,rfl⟩:=Xo;refine wpList_append_own_at _ hgd s x T ho B 55 i0 (.slice none 0 0) 1 24 hT hi hz0 hz1 hz2 rfl (by decide) _ _ _ hs (abH hr1.outer _) ⟨W.heap.size,0,none⟩ 1 1 [.slice yo l.length yc] hx rfl (cell_one_new _ _ _) (by simp[Value.oneCell']) (by unfold maxLen;omega) (by omega) (by simp;omega) ?_;intro v' w' hown' hg _ hat;have hnew:∀b,Value.ownBlock (.slice yo l.length yc)=some b->W0.heap.size<=b:=fun b hb=>(aap hy b hb).1
 have JI:ay w' B v' (vs++[.slice yo l.length yc]) (ls++[l]):=by
  refine hr1.grow (hy.lower hB) (fun u z b hz hzb e=> ?_) (fun b Jf e=> ?_) (tmp:= .cells #[.slice yo l.length yc] 55) hown' hg ?_
  .obtain⟨k,hk⟩:=hr.at hz
   have h1:=(aap (hr.row u z k hz hk) b hzb).2;have h2:=hnew b e;omega
  .have h1:=(aap hr.outer b Jf).2
   have h2:=hnew b e;omega
  .rcases hat with h1|h1
   .exact .inl h1
   .exact .inr (by simpa using h1)
 refine h v' w' JI ((hb.mono hB).trans (hb0.grown hg (by simp;omega) (fun b Jf=>(aap hr1.outer b Jf).1)))
end
namespace Ro
def half (es:List (Int×Int)) (u:Nat) (v:Int):Nat->Option Nat
 |0=>none
 |k+1=>match half es u v k with
  |some h=>some h
  |none=>if Cs.fr es k=u/\(Cs.to es k:Int)=v then some k else none
theorem jE {es:List (Int×Int)} {u:Nat} {v:Int}:∀{k h:Nat},half es u v k=some h->h<k/\Cs.fr es h=u/\(Cs.to es h:Int)=v
 |k+1,h,hh=>by
  unfold half at hh
  split at hh
  .rename_i h' e
   cases hh;have:=jE e;exact⟨by omega,this.2⟩
  .split at hh
   .rename_i hc
    cases hh;exact⟨by omega,hc⟩
   .cases hh
theorem uw {es:List (Int×Int)} {u:Nat} {v:Int}:∀{k:Nat},half es u v k=none->∀h,h<k->¬(Cs.fr es h=u/\(Cs.to es h:Int)=v)
 |0,_,h,hk=>by omega
 |k+1,hh,h,hk=>by
  unfold half at hh
  split at hh
  .cases hh
  .rename_i e
   split at hh
   .cases hh
   .rename_i hc
    by_cases e2:h=k
    .subst e2;exact hc
    .exact uw e h (by omega)
theorem ES {n:Nat} {es:List (Int×Int)} (hv:Si.Val n es) {i j:Nat} (hi:i<2*es.length) (hj:j<2*es.length) (h1:Cs.fr es i=Cs.fr es j) (h2:Cs.to es i=Cs.to es j):i=j:=by
 obtain⟨e,he,RJ,mW⟩:=oP hv hi;obtain⟨f,hf,XL,hpf⟩:=oP hv hj;have hinj:∀{a b:Nat} {p q:Int×Int},es[a]? =some p->es[b]? =some q->p=q->a=b:=fun {a b p q} ha hb hpq=>by
  subst hpq;exact hv.place ha hb
 unfold Si.ok at RJ XL;obtain⟨e1,e2⟩:=e;obtain⟨f1,f2⟩:=f;dsimp only at mW hpf RJ XL;rcases mW with ⟨m1,a1,a2⟩|⟨m1,a1,a2⟩<;>rcases hpf with ⟨m2,b1,b2⟩|⟨m2,b1,b2⟩
 .have:=hinj he hf (by rw[show e1=f1 by omega,show e2=f2 by omega])
  omega
 .omega
 .omega
 .have:=hinj he hf (by rw[show e1=f1 by omega,show e2=f2 by omega])
  omega
def hl (es:List (Int×Int)) (v:Nat) (x:Int):Int:=match half es v x (2*es.length) with
 |some h=>(h:Int)
 |none=> -1
def hls (es:List (Int×Int)):Nat->List (List Int)->List (List Int)
 |_,[]=>[]
 |k,l::ls=>l.map (hl es k)::hls es (k+1) ls
theorem BJ (es:List (Int×Int)):∀(k:Nat) (ls:List (List Int)),(hls es k ls).length=ls.length
 |_,[]=>rfl
 |k,l::ls=>by simp[hls,BJ es (k+1) ls]
theorem Gm {es:List (Int×Int)}:∀{k:Nat} {ls:List (List Int)} {v:Nat} {l:List Int},ls[v]? =some l->(hls es k ls)[v]? =some (l.map (hl es (k+v)))
 |k,a::ls,0,l,h=>by
  simp at h;subst h;simp[hls]
 |k,a::ls,v+1,l,h=>by
  have:=Gm (es:=es) (k:=k+1) (ls:=ls) (v:=v) (l:=l) (by simpa using h);rw[show k+1+v=k+(v+1) by omega] at this;simpa[hls] using this
theorem BL {es:List (Int×Int)} {v:Nat} {x:Int} {h:Nat} (hh:half es v x (2*es.length)=some h):hl es v x=(h:Int)/\lv es (h:Int) v=true/\h<2*es.length:=by
 obtain⟨h1,h2,h3⟩:=jE hh;refine⟨by unfold hl;rw[hh],Xk h1 h2,h1⟩
theorem Gn {es:List (Int×Int)} {v:Nat} {x:Int} (hh:half es v x (2*es.length)=none):hl es v x= -1/\lv es (-1) v=false:=by
 refine⟨by unfold hl;rw[hh],by simp[lv]⟩
theorem XU {n:Nat} {es:List (Int×Int)} (hv:Si.Val n es) {v h:Nat} {x:Int} (hh:h<2*es.length) (h1:Cs.fr es h=v) (h2:(Cs.to es h:Int)=x):half es v x (2*es.length)=some h:=by
 cases e:half es v x (2*es.length) with
 |none=>exact absurd ⟨h1,h2⟩ (uw e h hh)
 |some k=>
  obtain⟨k1,k2,k3⟩:=jE e;rw[ES hv k1 hh (by omega) (by omega)]
theorem UN {es:List (Int×Int)} {v:Nat} {x y:Int} {h:Nat} (hh:half es v x (2*es.length)=some h) (e:hl es v y=(h:Int)):x=y:=by
 cases ey:half es v y (2*es.length) with
 |none=>rw[(Gn ey).1] at e;omega
 |some k=>
  rw[(BL ey).1] at e;have e2:k=h:=by omega
  subst e2;have h1:=(jE hh).2.2;have h2:=(jE ey).2.2;omega
theorem UM {es:List (Int×Int)} {v:Nat} {x:Int} {h:Nat} {pre:List Int} (hh:half es v x (2*es.length)=some h):(h:Int)∈pre.map (hl es v)↔x∈pre:=by
 constructor
 .intro hm
  obtain⟨y,hy,e⟩:=abP.1 hm;rw[UN hh e];exact hy
 .intro hm
  rw[<-(BL hh).1];exact abP.2 ⟨x,hm,rfl⟩
end Ro
end Go.Proofs.YtdbjpbjocmcpkaaGreatDoor
