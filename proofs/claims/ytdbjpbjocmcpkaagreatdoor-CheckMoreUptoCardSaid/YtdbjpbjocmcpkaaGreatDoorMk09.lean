import Derived.Test.YtdbjpbjocmcpkaaGreatDoorMk08
import Derived.Defers
import Derived.Recover
import Derived.Shelf.Abstract
set_option maxHeartbeats 8000000
set_option maxRecDepth 100000
namespace Go.Proofs.YtdbjpbjocmcpkaaGreatDoor
section
open Go.RowKit
theorem Cs.tv {n:Nat} {es:List (Int×Int)} (hv:Si.Val n es):∀k,k<=es.length->∀v,v<n->(Si.eA n (es.take k))[v]? =some ((Cs.out es v (2*k)).length:Int):=by
 intro k
 induction k with
 |zero=>intro _ v hv;simp[Si.eA,Cs.out,hv]
 |succ k ih=>
  intro hk v rq;obtain⟨q,hq⟩:∃q,es[k]? =some q:=⟨_,aaC (by omega)⟩;have hok:=hv.each k q hq;unfold Si.ok at hok;obtain⟨qu,qv⟩:=q;dsimp only at hok;obtain⟨a,rfl⟩:∃u:Nat,qu=(u:Int):=⟨qu.toNat,by omega⟩;obtain⟨b,rfl⟩:∃v:Nat,qv=(v:Int):=⟨qv.toNat,by omega⟩;obtain⟨e1,-⟩:=Cs.eu hq;obtain⟨e3,-⟩:=Cs.jQ hq;dsimp only[Int.toNat_natCast] at e1 e3;have h1:=ih (by omega) a (by omega);have h2:=ih (by omega) b (by omega);rw[Si.e9 hq,Si.yw];have hne:a≠b:=by omega
  rw[Si.rN h1,Si.rN (x:=((Cs.out es b (2*k)).length:Int)) (by rw[aaR,if_neg hne];exact h2)];have e:2*(k+1)=2*k+1+1:=by omega
  have hl:=Si.lZ n (es.take k);rw[e,Cs.dK,Cs.dK,e1,e3,aaR];by_cases hb:b=v
  .subst hb
   rw[if_pos rfl,if_pos (by simp;omega),if_neg hne,if_pos rfl]
   congr 1
  .rw[if_neg hb,if_neg hb,aaR]
   by_cases ha:a=v
   .subst ha
    rw[if_pos rfl,if_pos (by omega),if_pos rfl]
    congr 1
   .rw[if_neg ha,if_neg ha,ih (by omega) v rq]
    rfl
end
section
open Go.Proofs.Tryz
open Go.RowKit Go.Sort
def cG (v:Nat) (c:Int):Value:= .iface 233 (.agg #[.int .i64 (v:Int),.int .i64 c])
structure fM (w:World) (B p gd gs n:Nat) (ao:Option Addr) (ca:Nat) (es:List (Int×Int)) (f:Nat->Bool):Prop where
 blk:w.heap[p]? =some (.cells #[.int .i64 (n:Int),.slice ao es.length ca,.slice (some ⟨gd,0,none⟩) n n,.slice (some ⟨gs,0,none⟩) (2*es.length) (2*es.length)] 306 (0,0))
 fE:aq w gd (Si.eA n es)
 Da:aG w gs (2*es.length) f
 lo:B<=p/\B<=gd/\B<=gs
 ne:p≠gs/\gd≠gs/\p≠gd
theorem fM.later {w w':World} {B p gd gs n:Nat} {ao:Option Addr} {ca:Nat} {es:List (Int×Int)} {f:Nat->Bool} (h:fM w B p gd gs n ao ca es f) (hb:Below w.heap.size w w'):fM w' B p gd gs n ao ca es f:=
 ⟨(hb.block p (lt_of_block h.blk)).trans h.blk,h.fE.later hb,h.Da.later hb,h.lo,h.ne⟩
theorem fM.keep {w w':World} {B p gd gs n:Nat} {ao:Option Addr} {ca:Nat} {es:List (Int×Int)} {f:Nat->Bool} (h:fM w B p gd gs n ao ca es f) (hb:∀b,b=p\/b=gd\/b=gs->w'.heap[b]? =w.heap[b]?):fM w' B p gd gs n ao ca es f:=
 ⟨(hb p (.inl rfl)).trans h.blk,(hb gd (.inr (.inl rfl))).trans h.fE,(hb gs (.inr (.inr rfl))).trans h.Da,h.lo,h.ne⟩
theorem fM.set {w:World} {B p gd gs n:Nat} {ao:Option Addr} {ca:Nat} {es:List (Int×Int)} {f:Nat->Bool} (h:fM w B p gd gs n ao ca es f) (j:Nat) (y:Bool):fM (w.setCell ⟨gs,j,none⟩ (.bool y)) B p gd gs n ao ca es (Co.bB f j y):=
 ⟨(eJ h.ne.1 _).trans h.blk,h.fE.iV h.ne.2.1 _,h.Da.set j y,h.lo,h.ne⟩
theorem eB {w:World} {B g j:Nat} (x:Value) (h:B<=g):Below B w (w.setCell ⟨g,j,none⟩ x):=
 ⟨rfl,rfl,rfl,by simp,fun k hk=>heap_setCell_other w ⟨g,j,none⟩ k x (by show k≠g;omega)⟩
def Ic (B p gd gs n:Nat) (ao:Option Addr) (ca:Nat) (es:List (Int×Int)) (f:Nat->Bool) (v:Nat) (h:Int) (w:World) (e:Ending) (w':World):Prop:=
 aj (fun b=>b=gs) w w'/\((Ro.lv es h v=false/\e= .panicked [{ v:=cG v 111,recovered:=false }])\/(Ro.lv es h v=true/\f h.toNat=true/\e= .panicked [{ v:=cG v 112,recovered:=false }])\/
  (Ro.lv es h v=true/\f h.toNat=false/\e= .returned (.tuple #[])/\fM w' B p gd gs n ao ca es (Co.bB f h.toNat true)))
theorem wu (B p gd gs n:Nat) (ao:Option Addr) (ca:Nat) (es:List (Int×Int)) (f:Nat->Bool) (v:Nat) (h:Int) (w:World) (hr:fM w B p gd gs n ao ca es f) (he:ah w ao es) (hv:Si.Val n es):
 Calls prog 198 #[.pointer (some ⟨p,0,none⟩),.int .i64 (v:Int),.int .i64 h] w (Ic B p gd gs n ao ca es f v h w):=by
 have HL:=ζ (DU n ao ca es h v w he hv);obtain⟨c0,c1,c2,c3,-⟩:=jR hr.blk;have hpl:=lt_of_block hr.blk;have HR:=ζ hr;have dA:=hv.few;clear hr he hv;cases hlv:Ro.lv es h v with
 |false=>
  rw[hlv] at HL;have PW:=ζ hlv;clear hlv;go_enter func198,ntmps198;go_wp2_with (go_at_call 254;refine HL.out.mono ?_;rintro e w1 ⟨rfl,hb1⟩);exact⟨rfl,(aj.refl _ _).later hb1,.inl ⟨PW.out,rfl⟩⟩
 |true=>
  rw[hlv] at HL;obtain⟨j,rfl,hj⟩:∃j:Nat,h=(j:Int)/\j<2*es.length:=by
   unfold Ro.lv at hlv;simp at hlv;exact⟨h.toNat,by omega,by omega⟩
  have PW:=ζ hlv;clear hlv;have hj2:(j:Int)<2*(es.length:Int):=by omega
  have HJ:=ζ hj;clear hj;go_enter func198,ntmps198;go_wp2_with (go_at_call 254;refine HL.out.mono ?_;rintro e w1 ⟨rfl,hb1⟩;refine aaH ?_);refine ζ ?_;have hr1:=HR.out.later hb1;have aN:=ζ ((aj.refl (fun b=>b=gs) w).later hb1);clear c0 c1 c2 c3 hb1;obtain⟨c0,c1,c2,c3,-⟩:=jR hr1.blk;have cs:=hr1.Da.cell HJ.out;have cf:=hr1.Da.free j;have yT:=ζ hr1;clear hr1;cases hf:f j with
  |true=>
   rw[hf] at cs;go_wp2;exact⟨rfl,aN.out,.inr (.inl ⟨PW.out,hf,rfl⟩)⟩
  |false=>
   rw[hf] at cs;have HF:=ζ hf;clear hf;go_wp2
   go_end0
   exact⟨aN.out.setCell rfl _,.inr (.inr ⟨PW.out,HF.out,rfl,yT.out.set j true⟩)⟩
def FV (es:List (Int×Int)) (v k:Nat) (w:World) (e:Ending) (w':World):Prop:=
 w'=w/\((k<Ro.fE es v/\e= .panicked [{ v:=cG v 113,recovered:=false }])\/(¬k<Ro.fE es v/\e= .returned (.tuple #[])))
theorem Ar (B p gd gs n:Nat) (ao:Option Addr) (ca:Nat) (es:List (Int×Int)) (f:Nat->Bool) (v k:Nat) (w:World) (hr:fM w B p gd gs n ao ca es f) (hv:Si.Val n es) (rq:v<n):
 Calls prog 199 #[.pointer (some ⟨p,0,none⟩),.int .i64 (v:Int),.int .i64 (k:Int)] w (FV es v k w):=by
 obtain⟨c0,c1,c2,c3,-⟩:=jR hr.blk;have hd:(Si.eA n es)[v]? =some (Ro.fE es v:Int):=by
  have:=Cs.tv hv es.length (aaD _) v rq;rw[abn] at this;exact this
 have cd:=hr.fE.cell hd;have Uq:(v:Int)<(n:Int):=by omega
 obtain⟨D,hD⟩:∃D,D=Ro.fE es v:=⟨_,rfl⟩;unfold FV;rw[<-hD] at cd ⊢;clear hr hd hv hD;by_cases hk:k<D
 .have hk2:(k:Int)<(D:Int):=by omega
  go_enter func199,ntmps199;go_wp2;exact⟨rfl,rfl,.inl ⟨hk,rfl⟩⟩
 .have hk2:¬(k:Int)<(D:Int):=by omega
  go_enter func199,ntmps199;go_wp2
  go_end0
  exact⟨rfl,rfl⟩
end
section
open Go.RowKit Go.Sort
def NI (n:Int) (es:List (Int×Int)) (ls:List (List Int)) (w:World) (e:Ending) (w':World):Prop:=
 Below w.heap.size w w'/\(((Ro.check n es ls).2≠0/\e= .returned (.tuple #[.slice none 0 0,.int .i64 (Ro.check n es ls).2]))\/
  ((Ro.check n es ls).2=0/\∃g,e= .returned (.tuple #[.slice (some ⟨g,0,none⟩) (2*es.length) (2*es.length),.int .i64 0])/\w.heap.size<=g/\aq w' g (Ro.gZ es ls)))
end
section
open Go.Proofs.Tryz
open Go.RowKit Go.Sort
def Ig (n:Int) (ao:Option Addr) (ca:Nat) (es:List (Int×Int)) (k:Nat) (w:World) (e:Ending) (w':World):Prop:=
 Below w.heap.size w w'/\((Si.valid n es=false/\e= .panicked [{ v:=cG 0 1,recovered:=false }])\/(Si.valid n es=true/\(k:Int)≠n/\e= .panicked [{ v:=cG 0 110,recovered:=false }])\/
  (Si.valid n es=true/\(k:Int)=n/\∃p gd gs,e= .returned (.pointer (some ⟨p,0,none⟩))/\fM w' w.heap.size p gd gs k ao ca es (fun _=>false)))
theorem mR (n:Int) (ao:Option Addr) (ca:Nat) (es:List (Int×Int)) (k:Nat) (w:World) (he:ah w ao es) (hl:es.length<=4611686018427387904):
 Calls prog 197 #[aD n ao es.length ca,.int .i64 (k:Int)] w (Ig n ao ca es k w):=by
 have hb0:Below w.heap.size w (w.alloc (.cells #[.int .i64 n,.slice ao es.length ca] 24)):=(aaE _ _).alloc (aaD _) _;have HD:=ζ (rI n ao ca es _ (he.later hb0) hl);have aW:=ζ hb0;obtain⟨i0,hi,hz0,hz1,hz2⟩:=info_parts Tryz.sM;unfold aD at HD ⊢;clear he hb0;go_enter func197,ntmps197;go_wp2_with (go_at_call 173;refine HD.out.mono ?_;refine aaH ?_);refine ζ ?_;rintro e w1 ⟨hp,hb1⟩;have hG:w1.heap[w.heap.size]? =some (.cells #[.int .i64 n,.slice ao es.length ca] 24 (0,0)):=(hb1.block _ (by simp)).trans (heap_alloc_new w _);have aN:=ζ (aW.out.trans (hb1.mono aW.out.size));obtain⟨g0,g1,-⟩:=af hG;have GI:=lt_of_block hG;have hs1:(w.alloc (.cells #[.int .i64 n,.slice ao es.length ca] 24)).heap.size<=w1.heap.size:=hb1.size;rw[aa1] at hs1;have HG:=ζ hG;clear hb1 hG;rcases hp with ⟨hv,g,m,rfl,rfl,hg,hint⟩|⟨hv,rfl⟩
 .have hval:=Si.aJ.1 hv
  have dA:=hval.few;have hlo:=hval.lo;have hhi:=hval.hi;have HV:=ζ hv;have HI:=ζ hint;have GX:=hint.lt;have Tt:=ζ hg;clear hv hval hint hg;by_cases hk:k=m
  .subst hk
   obtain⟨M,hM⟩:∃M,M=2*es.length:=⟨_,rfl⟩;have hmul:IntKind.i64.wrap (2*(es.length:Int))=(M:Int):=by rw[aaK];omega
   have GS:2*(es.length:Int)=(M:Int):=by omega
   have VI:M<=8388608:=by omega
   have YJ:¬(M:Int)<0:=by omega
   have hmk:∀W,(Instr.makeSlice 237 (.int .i64 (M:Int)) (.int .i64 (M:Int))).run prog W= .ok (.slice (some ⟨W.heap.size,0,none⟩) M M) (W.alloc (.cells (madeCells #[.bool false] M) 4)):=fun W=>by
    have:=run_make (P:=prog) W 237 4 i0 (.bool false) Tryz.underlying237 hi hz0 .i64 .i64 (M:Int) (M:Int) (by omega) (by omega) (by rw[hz2];omega) (by omega);rw[this,hz1];simp[Value.cells]
   have rR:=ζ hM;clear hM hi hz0 hz1 hz2;go_wp2_with fail
   go_region
   all_goals
    clear hmk;go_wp2;go_ret;have HH:=HI.out;have hB1:=aN.out;have hge:=Tt.out;rw[aa1] at hge;obtain rfl:=rR.out;have hA:=((hB1.alloc (by omega) (.cells (madeCells #[.bool false] (2*es.length)) 4)).alloc (by simp;omega) (.cells #[.int .i64 (k:Int),.slice ao es.length ca,.slice (some ⟨g,0,none⟩) k k,.slice (some ⟨w1.heap.size,0,none⟩) (2*es.length) (2*es.length)] 306));refine⟨?_,.inr (.inr ⟨HV.out,rfl,w1.heap.size+1,g,w1.heap.size,rfl,?_,?_,?_,?_,?_⟩)⟩
    .first|exact hA|exact hA.drew
    .exact alloc_at (by simp)
    .exact(HH.alloc _).alloc _
    .refine aG.same (mU (W:=w1) rfl (2*es.length)) ?_
     exact aaO _ _ _ (by simp)
    .exact⟨by omega,by omega,by omega⟩
    .exact⟨by omega,by omega,by omega⟩
  .have hk2:¬(k:Int)=(m:Int):=by omega
   have hk3:((k:Int) != (m:Int))=true:=by simp;omega
   have HK:=ζ hk;clear hk;go_wp2;exact⟨rfl,aN.out,.inr (.inl ⟨HV.out,hk2,rfl⟩)⟩
 .have HV:=ζ hv
  clear hv;go_wp2;exact⟨rfl,aN.out,.inl ⟨HV.out,rfl⟩⟩
end
section
open Go.RowKit Go.Sort
def cO (n:Int) (es:List (Int×Int)) (ls:List (List Int)) (w:World) (e:Ending) (w':World):Prop:=
 Below w.heap.size w w'/\(((Ro.check n es ls).2=0/\e= .returned (.tuple #[]))\/((Ro.check n es ls).2≠0/\e= .panicked [{ v:=cG (Ro.check n es ls).1 (Ro.check n es ls).2,recovered:=false }]))
theorem cO.bad {n:Int} {es:List (Int×Int)} {ls:List (List Int)} {w w':World} {v:Nat} {c:Int} (hb:Below w.heap.size w w') (h:Ro.check n es ls=(v,c)) (hc:c≠0):cO n es ls w (.panicked [{ v:=cG v c,recovered:=false }]) w':=by
 refine⟨hb,.inr ?_⟩;rw[h];exact⟨hc,rfl⟩
theorem uW (n:Int) (ao:Option Addr) (ca:Nat) (es:List (Int×Int)) (xo:Option Addr) (xc:Nat) (ls:List (List Int)) (w:World) (he:ah w ao es) (hl:es.length<=4611686018427387904) (hx:bu w xo ls):
 Calls Tryz.prog 134 #[aD n ao es.length ca,.slice xo ls.length xc] w (cO n es ls w):=by
 have hb0:Below w.heap.size w (w.alloc (.cells #[.int .i64 n,.slice ao es.length ca] 24)):=(aaE _ _).alloc (aaD _) _;have HN:=ζ (mR n ao ca es ls.length _ (he.later hb0) hl);have aW:=ζ hb0;have HE:=ζ he;have HX:=ζ hx;unfold aD at HN ⊢;clear he hb0 hx;go_enter Tryz.func134,Tryz.ntmps134;go_wp2_with (go_at_call 197;refine HN.out.mono ?_;refine aaH ?_);refine ζ ?_;rintro e w1 ⟨hb1,hp⟩;have aN:=ζ (aW.out.trans (hb1.mono aW.out.size));have hs1:=hb1.size;rw[aa1] at hs1;clear hb1;rcases hp with ⟨hv,rfl⟩|⟨hv,hk,rfl⟩|⟨hv,rfl,p,gd,gs,rfl,hr⟩
 .exact⟨rfl,cO.bad aN.out (by simp[Ro.check,hv]) (by decide)⟩
 .exact⟨rfl,cO.bad aN.out (by simp[Ro.check,hv,hk]) (by decide)⟩
 have hck:Ro.check (ls.length:Int) es ls=Ro.iD es 0 ls:=by simp[Ro.check,hv]
 have hval:=Si.aJ.1 hv;have ko:=ζ hck;have iB:=ζ hval;have hlb:=hval.hi;have HR:=ζ (show fM w1 w.heap.size p gd gs ls.length ao ca es (fun _=>false) from⟨hr.blk,hr.fE,hr.Da,⟨by have:=hr.lo.1;simp at this;omega,by have:=hr.lo.2.1;simp at this;omega,by have:=hr.lo.2.2;simp at this;omega⟩,hr.ne⟩);clear hr hv hck hval;go_wp2;go_loopw [15] (fun c wr=>∃(k:Nat) (f:Nat->Bool) (D:List Int),k<=ls.length/\c= .int .i64 (k:Int)/\Ro.iD es 0 ls=Ro.iD es k (ls.drop k)/\Ro.Sd es f k D []/\fM wr w.heap.size p gd gs ls.length ao ca es f/\Below w.heap.size w wr) (fun c _=>ls.length-(intOf c).toNat)
 case atStart=>exact⟨0,_,[],aaL _,rfl,rfl,Ro.Sd.start es,HR.out,aN.out⟩
 case round=>
  obtain⟨k,f,D,hk,rfl,hch,xK,hr,hb⟩:=hrel;clear HR;have nQ:=ζ hch;have kg:=ζ xK;have HR:=ζ hr;have HB:=ζ hb;clear hch xK hr hb;by_cases hlt:k<ls.length
  .have aX:(k:Int)<(ls.length:Int):=by omega
   have hk0:(0:Int)<=(k:Int):=by omega
   obtain⟨l,hlk⟩:∃l,ls[k]? =some l:=⟨_,aaC hlt⟩;obtain⟨b,o,A,C,rfl,hc,hL,lO⟩:=HX.out k l hlk;have hbl:b<w.heap.size:=block_lt_of_cell hc;have hcr:=(HB.out.cell (p:=⟨b,o+k,none⟩) hbl).trans hc;have HL:=ζ hL;have gX:=ζ hlk;have aag:=lO.1;clear hc hL hlk lO;go_wp2;go_loopw [22] (fun c wr=>∃(i:Nat) (f:Nat->Bool),i<=l.length/\c= .int .i64 (i:Int)/\Ro.gi es k [] l=Ro.gi es k (l.take i) (l.drop i)/\Ro.Sd es f k D (l.take i)/\fM wr w.heap.size p gd gs ls.length ao ca es f/\Below w.heap.size w wr) (fun c _=>l.length-(intOf c).toNat)
   case atStart=>exact⟨0,f,aaL _,rfl,rfl,kg.out,HR.out,HB.out⟩
   case round=>
    clear HR HB kg hcr;obtain⟨i,f,hi,rfl,hel,xK,hr,hb⟩:=hrel;have CP:=ζ hel;have kg:=ζ xK;have HR:=ζ hr;have HB:=ζ hb;clear hel xK hr hb;by_cases hil:i<l.length
    .have MT:(i:Int)<(l.length:Int):=by omega
     have xO:(0:Int)<=(i:Int):=by omega
     obtain⟨h,hh⟩:∃h,l[i]? =some h:=⟨_,aaC hil⟩;obtain⟨lb,lo',rfl,lc⟩:=HL.out.elem hh;have Ji:lb<w.heap.size:=block_lt_of_cell lc;have hlc:=(HB.out.cell (p:=⟨lb,lo'+i,none⟩) Ji).trans lc;have HST:=ζ (wu w.heap.size p gd gs ls.length ao ca es f k h wr HR.out (HE.out.later HB.out) iB.out);have HH:=ζ hh;clear hh lc;go_wp2_with (go_at_call 198;refine HST.out.mono ?_;refine aaH ?_);refine ζ ?_;rintro e w2 ⟨hw2,hp⟩;have hb2:=hw2.below HB.out.size (B:=w.heap.size) (fun k hk=>by rw[hk];exact HR.out.lo.2.2);have aC:=ζ (HB.out.trans hb2);clear hw2;clear hb2;rcases hp with ⟨hlv,rfl⟩|⟨hlv,hf,rfl⟩|⟨hlv,hf,rfl,hr2⟩
     .refine⟨rfl,cO.bad aC.out ?_ (by decide)⟩
      rw[ko.out,nQ.out,Ro.drop_cons gX.out];exact Ro.jw (Ro.qF (by rw[CP.out,Ro.drop_cons HH.out,Ro.tq hlv]) (by decide)) (by decide)
     .obtain⟨j,rfl,-,-⟩:=Ro.ow hlv
      refine⟨rfl,cO.bad aC.out ?_ (by decide)⟩;rw[ko.out,nQ.out,Ro.drop_cons gX.out];exact Ro.jw (Ro.qF (by rw[CP.out,Ro.drop_cons HH.out,Ro.qi hlv ((kg.out.twice hlv).1 hf)]) (by decide)) (by decide)
     .obtain⟨j,rfl,-,-⟩:=Ro.ow hlv
      have Od:=ζ (show Ro.gi es k [] l=Ro.gi es k (l.take (i+1)) (l.drop (i+1)) by
       rw[CP.out,Ro.drop_cons HH.out,Ro.vJ hlv (fun h=>by have h2:=(kg.out.twice hlv).2 h;rw[abb,h2] at hf;cases hf),Ro.gF HH.out])
      have Fz:=ζ (show Ro.Sd es (Co.bB f j true) k D (l.take (i+1)) by rw[Ro.gF HH.out];exact kg.out.put hlv);have FB:=ζ hr2;clear hlv hf hr2;go_wp2;go_roundw
      case rel=>exact⟨i+1,_,by omega,by go_num,Od.out,Fz.out,FB.out,aC.out⟩
      case measure=>simp[intOf];omega
    .have MT:¬(i:Int)<(l.length:Int):=by omega
     obtain rfl:i=l.length:=by omega
     have TA:=ζ (Ar w.heap.size p gd gs ls.length ao ca es f k l.length wr HR.out iB.out hlt);have FO:=ζ (show Ro.gi es k [] l=0 by rw[CP.out];simp[Ro.gi]);go_wp2_with (go_at_call 199;refine TA.out.mono ?_;refine aaH ?_);refine ζ ?_;rintro e w2 ⟨hw2,hp⟩;obtain rfl:=hw2.symm;rcases hp with ⟨hd,rfl⟩|⟨hd,rfl⟩
     .refine⟨rfl,cO.bad HB.out ?_ (by decide)⟩
      rw[ko.out,nQ.out,Ro.drop_cons gX.out];exact Ro.jw (Ro.qE FO.out hd) (by decide)
     .have Oi:=ζ (show Ro.iD es 0 ls=Ro.iD es (k+1) (ls.drop (k+1)) by
       rw[nQ.out,Ro.drop_cons gX.out,Ro.Ct (Ro.Bj FO.out hd)])
      have Fz:=ζ (by have:=kg.out.next;exact this);clear hd;go_wp2;go_roundw
      case rel=>exact⟨k+1,f,_,by omega,by go_num,Oi.out,Fz.out,HR.out,HB.out⟩
      case measure=>simp[intOf];omega
  .have aX:¬(k:Int)<(ls.length:Int):=by omega
   obtain rfl:k=ls.length:=by omega
   go_wp2
   go_end0
   refine⟨HB.out,.inl ⟨?_,rfl⟩⟩;rw[ko.out,nQ.out];simp[Ro.iD]
end
section
open Go.Proofs.Tryz
open Go.RowKit Go.Sort
theorem BB (p:Addr) (w:World):
 CallsD prog 196 #[.pointer (some p)] .returning w fun e u' w'=>e= .returned (.tuple #[])/\u'= .returning/\w'=w:=by
 refine callsD_of_wpS func196 rfl fun c₀ cs hu=> ?_
 apply wpS_seq;apply wpS_region;simp[wpOpsS,go_sem,recoverD,hu,ntmps196,Exit.thenS];refine wpS_of_wp ?_;go_wp2;cases c₀
 simp_all[bodyPostS,results,results196]
def kE (w:World) (b:Nat) (v c:Int):Prop:=w.heap[b]? =some (.cells #[.int .i64 v,.int .i64 c] 233 (0,0))
def wN (w:World) (b:Nat) (v c:Int):World:=(w.setCell ⟨b,0,none⟩ (.int .i64 v)).setCell ⟨b,1,none⟩ (.int .i64 c)
theorem kE.put {w:World} {b:Nat} {v c:Int} (h:kE w b v c) (v' c':Int):kE (wN w b v' c') b v' c':=by
 unfold kE wN at*;rw[heap_setCell_same _ b 1 _ _ _ (heap_setCell_same w b 0 _ _ _ h)];rfl
theorem Dt (w:World) {b k:Nat} (v c:Int) (h:k≠b):(wN w b v c).heap[k]? =w.heap[k]? :=by
 unfold wN;rw[heap_setCell_other _ ⟨b,1,none⟩ k _ h,heap_setCell_other _ ⟨b,0,none⟩ k _ h]
theorem Gh (w:World) (b:Nat) (v c:Int):(wN w b v c).heap.size=w.heap.size:=by simp[wN]
theorem tV (w:World) (b:Nat) (v c:Int):aj (fun k=>k=b) w (wN w b v c):=
 ⟨rfl,rfl,rfl,by rw[Gh];exact aaD _,fun k _ hk=>Dt w v c hk⟩
theorem zw (b:Nat) (v0 c0:Int) (v:Nat) (c:Int) (w:World) (hr:kE w b v0 c0):
 CallsD prog 196 #[.pointer (some ⟨b,0,none⟩)] (.panicking [{ v:=cG v c,recovered:=false }]) w fun e u' w'=>
  e= .returned (.tuple #[])/\u'= .panicking [{ v:=cG v c,recovered:=true }]/\kE w' b (v:Int) c/\aj (fun k=>k=b) w w':=by
 obtain⟨d0,d1,d2⟩:=af hr;have hbl:=lt_of_block hr;have Mt:∀(x:Value) (w:World),(Instr.typeAssert (.iface 233 x) 20 233 true).run prog w= .ok (.tuple #[x,.bool true]) w:=fun _ _=>by kernel_rfl
 have hnil:∀(x:Value) (w:World),(binOp .eql 20 (.iface 233 x) .nilIface).run prog w= .ok (.bool false) w:=fun _ _=>by kernel_rfl
 refine callsD_of_wpS func196 rfl fun c₀ cs hu=> ?_
 unfold cG at hu ⊢;apply wpS_seq;apply wpS_region;simp[wpOpsS,go_sem,recoverD,hu,ntmps196,Exit.thenS,Array.replicate];refine wpS_of_wp ?_;have HR:=ζ hr;clear hr;go_wp2;refine⟨rfl,_,rfl,.tuple #[],by simp[results,results196],rfl,rfl,?_,(tV w b v c).alloc _⟩;unfold kE;rw[aaO _ _ _ (by simpa using hbl)];exact HR.out.put (v:Int) c
def FW (b:Nat) (K0:World->Prop) (K1:Nat->Int->World->Prop) (e:Ending) (w':World):Prop:=
 ∃W1,((K0 W1/\e= .returned (.agg #[.int .i64 0,.int .i64 0]))\/∃v c,K1 v c W1/\e= .returned (.agg #[.int .i64 (v:Nat),.int .i64 c]))/\aj (fun k=>k=b) W1 w'
theorem qP (tmps:Array Value) (W:World) (b:Nat) (v c:Int) (h2:tmps.getD 2 undef= .pointer (some ⟨b,0,none⟩)) (hr:kE W b v c):
 (results Tryz.f132 tmps).run prog W= .ok (.agg #[.int .i64 v,.int .i64 c]) W:=
 results_cell_row (p:=2) (ty:=233) results132 tmps W b 233 _ (0,0) _ h2 hr Tryz.underlying233 rfl (by kernel_rfl)
theorem uM (kf:Nat) (bs:Array Value) (K0:World->Prop) (K1:Nat->Int->World->Prop) (w:World)
 (hent:∀(args:Array Value) (w:World),(callFunc kf args).run prog w= .ok (.enter kf args) w)
 (xV:Calls prog kf bs (w.alloc (.cells #[.int .i64 0,.int .i64 0] 233)) fun e w'=>kE w' w.heap.size 0 0/\((e= .returned (.tuple #[])/\K0 w')\/∃v c,e= .panicked [{ v:=cG v c,recovered:=false }]/\K1 v c w')):
 Calls prog 132 #[.func (.func kf) #[] bs] w (FW w.heap.size K0 K1):=by
 have RU:∀(fn:Fn) (first cap:Array Value) (w:World),(Instr.makeFunc fn first cap).run prog w= .ok (.func fn first cap) w:=fun _ _ _ _=>rfl
 have HC:=ζ xV;clear xV
 go_enter_defers func132,ntmps132
 go_wp2_with (go_at_fn kf;(try simp only[Array.empty_append]);refine HC.out.mono ?_;refine aaH ?_);refine ζ ?_;rintro e w1 ⟨hf,hp⟩;rcases hp with ⟨rfl,hk⟩|⟨v,c,rfl,hk⟩
 .obtain⟨d0,d1,d2⟩:=af hf
  have HF:=ζ hf;have HK:=ζ hk;clear hf hk;go_wp2;refine leaves_cons (f:=196) (args:= #[.pointer (some ⟨w.heap.size,0,none⟩)]) (by simp) (by simp[go_sem]) ?_;refine(BB _ _).mono ?_;rintro e u' w3 ⟨rfl,rfl,rfl⟩;exact⟨_,qP _ _ w.heap.size _ _ rfl (HF.out.put 0 0),w1,.inl ⟨HK.out,rfl⟩,tV _ _ _ _⟩
 .refine leaves_cons (f:=196) (args:= #[.pointer (some ⟨w.heap.size,0,none⟩)]) (by simp) (by simp[go_sem]) ?_
  refine(zw w.heap.size _ _ v c w1 hf).mono ?_;rintro e u' w3 ⟨rfl,rfl,GM,hb3⟩;exact⟨_,qP _ _ w.heap.size _ _ rfl GM,w1,.inr ⟨v,c,hk,rfl⟩,hb3⟩
end
section
open Go.Proofs.Tryz
open Go.RowKit Go.Sort
theorem Ff (n:Int) (ao:Option Addr) (ca:Nat) (es:List (Int×Int)) (xo:Option Addr) (xc:Nat) (ls:List (List Int)) (b:Nat) (w:World) (he:ah w ao es) (hl:es.length<=4611686018427387904) (hx:bu w xo ls)
 (hg:w.heap[b]? =some (.cells #[.int .i64 n,.slice ao es.length ca] 24 (0,0))) (hr:w.heap[b+1]? =some (.cells #[.slice xo ls.length xc] 50 (0,0))):
 Calls prog 133 #[.pointer (some ⟨b,0,none⟩),.pointer (some ⟨b+1,0,none⟩)] w (cO n es ls w):=by
 obtain⟨g0,g1,-⟩:=af hg;have r0:=cell_of_one hr;have HH:=ζ (uW n ao ca es xo xc ls w he hl hx);unfold aD at HH;clear he hx hg hr;go_enter func133,ntmps133;go_wp2_with (go_at_call 134;refine HH.out.mono ?_;refine aaH ?_);refine ζ ?_;rintro e w1 ⟨hb,hp⟩;rcases hp with ⟨hc,rfl⟩|⟨hc,rfl⟩
 .have HB:=ζ hb
  have HC:=ζ hc;clear hb hc;go_wp2
  go_end0
  exact⟨HB.out,.inl ⟨HC.out,rfl⟩⟩
 .exact⟨rfl,hb,.inr ⟨hc,rfl⟩⟩
theorem Fb:∀(args:Array Value) (w:World),(callFunc 133 args).run prog w= .ok (.enter 133 args) w:=enters_of func133 (by kernel_rfl) rfl
def JG (n:Int) (es:List (Int×Int)) (ls:List (List Int)) (w:World) (e:Ending) (w':World):Prop:=
 e= .returned (.tuple #[.int .i64 ((Ro.check n es ls).1:Int),.int .i64 (Ro.check n es ls).2])/\Below w.heap.size w w'
theorem Dr (n:Int) (ao:Option Addr) (ca:Nat) (es:List (Int×Int)) (xo:Option Addr) (xc:Nat) (ls:List (List Int)) (w:World) (he:ah w ao es) (hl:es.length<=4611686018427387904) (hx:bu w xo ls):
 Calls prog 86 #[aD n ao es.length ca,.slice xo ls.length xc] w (JG n es ls w):=by
 have RU:∀(fn:Fn) (first cap:Array Value) (w:World),(Instr.makeFunc fn first cap).run prog w= .ok (.func fn first cap) w:=fun _ _ _ _=>rfl
 obtain⟨W0,hW0⟩:∃W,W=(w.alloc (.cells #[.int .i64 n,.slice ao es.length ca] 24)).alloc (.cells #[.slice xo ls.length xc] 50):=⟨_,rfl⟩;have hb0:Below w.heap.size w W0:=by rw[hW0];exact((aaE _ _).alloc (aaD _) _).alloc (by simp) _
 have hs0:W0.heap.size=w.heap.size+2:=by rw[hW0];simp
 have hg:W0.heap[w.heap.size]? =some (.cells #[.int .i64 n,.slice ao es.length ca] 24 (0,0)):=by
  rw[hW0,aaO _ _ _ (by simp)];exact heap_alloc_new w _
 have hr:W0.heap[w.heap.size+1]? =some (.cells #[.slice xo ls.length xc] 50 (0,0)):=by
  rw[hW0];exact alloc_at (by simp)
 have hb1:Below W0.heap.size W0 (W0.alloc (.cells #[.int .i64 0,.int .i64 0] 233)):=(aaE _ _).alloc (aaD _) _;have hc1:=Ff n ao ca es xo xc ls w.heap.size (W0.alloc (.cells #[.int .i64 0,.int .i64 0] 233)) ((he.later hb0).later hb1) hl ((hx.later hb0).later hb1) ((hb1.block _ (by omega)).trans hg) ((hb1.block _ (by omega)).trans hr)
 have hca:=uM 133 #[.pointer (some ⟨w.heap.size,0,none⟩),.pointer (some ⟨w.heap.size+1,0,none⟩)] (fun W=>(Ro.check n es ls).2=0/\(Ro.check n es ls).1=0/\Below W0.heap.size W0 W) (fun v c W=>v=(Ro.check n es ls).1/\c=(Ro.check n es ls).2/\Below W0.heap.size W0 W) W0 Fb
  (hc1.mono (by
    rintro e w2 ⟨hb2,hp⟩;refine⟨(hb2.block _ (by simp)).trans (heap_alloc_new W0 _),?_⟩;have hb3:=hb1.trans (hb2.mono hb1.size);rcases hp with ⟨h0,rfl⟩|⟨h0,rfl⟩
    .exact .inl ⟨rfl,h0,Ro.Fe h0,hb3⟩
    .exact .inr ⟨_,_,rfl,rfl,rfl,hb3⟩))
 have kD:=ζ hca;have aW:=ζ hb0;have zU:=ζ hs0;unfold aD;clear he hx hg hr hb1 hc1 hca hb0 hs0;rw[hW0] at kD;have HW:=ζ hW0;clear hW0;go_enter func86,ntmps86;go_wp2_with (go_at_call 132;refine kD.out.mono ?_;refine aaH ?_);refine ζ ?_;rintro e w1 ⟨W1,hp,hw⟩;have KI:=HW.out;rw[<-KI] at hp hw;have xQ:∃v c,v=(Ro.check n es ls).1/\c=(Ro.check n es ls).2/\Below W0.heap.size W0 W1/\e= .returned (.agg #[.int .i64 ((v:Nat):Int),.int .i64 c]):=by
  rcases hp with ⟨⟨h0,h1,hb⟩,rfl⟩|⟨v,c,⟨h0,h1,hb⟩,rfl⟩
  .exact⟨0,0,h1.symm,h0.symm,hb,rfl⟩
  .exact⟨v,c,h0,h1,hb,rfl⟩
 obtain⟨v,c,hv,hc,hb,rfl⟩:=xQ;have cm:Below w.heap.size w w1:=by
  have h1:=aW.out.trans (hb.mono aW.out.size);refine h1.trans (hw.below h1.size fun k hk=> ?_);rw[hk,zU.out];omega
 have HV:=ζ hv;have HC:=ζ hc;have eM:=ζ cm;clear hp hw hb cm hv hc KI;go_wp2
 go_region
 go_wp2;go_ret2;have hv:=HV.out;have hc:=HC.out;subst hv;subst hc;exact⟨rfl,(eM.out.alloc eM.out.size _).drew⟩
end
section
open Go.Proofs.Tryz
open Go.RowKit Go.Sort
theorem Ge (n:Int) (ao:Option Addr) (ca:Nat) (es:List (Int×Int)) (xo:Option Addr) (xc:Nat) (ls:List (List Int)) (w:World) (he:ah w ao es) (hl:es.length<=4611686018427387904) (hx:bu w xo ls):
 Calls prog 257 #[aD n ao es.length ca,.slice xo ls.length xc] w (NI n es ls w):=by
 obtain⟨i0,hi,hz0,hz1,hz2⟩:=info_parts Tryz.ck;have hb0:Below w.heap.size w (w.alloc (.cells #[.int .i64 n,.slice ao es.length ca] 24)):=(aaE _ _).alloc (aaD _) _;have ko:=ζ (Dr n ao ca es xo xc ls _ (he.later hb0) hl (hx.later hb0));have HX:=ζ hx;have aW:=ζ hb0;unfold aD JG at ko;unfold aD;clear he hx hb0;have hch:Ro.check n es ls=((Ro.check n es ls).1,(Ro.check n es ls).2):=rfl;by_cases hc:(Ro.check n es ls).2=0
 .have Je:=Ro.fA.1 hc
  have hval:=Si.aJ.1 Je.val;have hlo:=hval.lo;have hhi:=hval.hi;have dA:=hval.few;have hlen:=Je.len;have Wn:=ζ Je;have HC:=ζ hc;rw[hc] at ko;obtain⟨cv,hcv⟩:∃cv,cv=(Ro.check n es ls).1:=⟨_,rfl⟩;rw[<-hcv] at ko;obtain⟨M,hM⟩:∃M,M=2*es.length:=⟨_,rfl⟩;have hmul:IntKind.i64.wrap (2*(es.length:Int))=(M:Int):=by rw[aaK];omega
  have GS:2*(es.length:Int)=(M:Int):=by omega
  have VI:M<=8388608:=by omega
  have HM:=ζ hM;clear hch hc Je hval hcv hM;go_enter func257,ntmps257;go_wp2_with (go_at_call 86;refine ko.out.mono ?_;rintro e w1 ⟨rfl,hb⟩;refine aaH ?_);refine ζ ?_;have ED:w1.heap[w.heap.size]? =some (.cells #[.int .i64 n,.slice ao es.length ca] 24 (0,0)):=(hb.block _ (by simp)).trans (heap_alloc_new w _);obtain⟨g0,g1,-⟩:=af ED;have Z5:w.heap.size<w1.heap.size:=lt_of_block ED;have aN:=ζ (aW.out.trans (hb.mono aW.out.size));clear hb ED;go_wp2_with (at_make;refine wpList_make_full _ rfl _ _ 55 rfl w1.heap.size 3 i0 (.int .i64 0) 1 Tryz.underlying55 hi hz0 hz1 _ _ _ _ M rfl rfl rfl rfl (by rw[hz2];omega) (by unfold maxLen;omega) (aaD _) ?_;refine aaH ?_);refine ζ ?_;intro w2 hrow hg2;rw[dz] at hrow;have zX:=ζ (fJ hrow);have hb2:Below w1.heap.size w1 w2:=(aaE _ _).grown hg2 (aaD _) (fun j hj=>by cases hj);have aC:=ζ (aN.out.trans (hb2.mono aN.out.size));clear hrow hg2 hb2 g0 g1;go_wp2;go_loopw [29] (fun c wr=>∃k:Nat,k<=ls.length/\c= .int .i64 (k:Int)/\aq wr w1.heap.size (Ro.nx ls k (List.replicate M 0))/\Below w.heap.size w wr) (fun c _=>ls.length-(intOf c).toNat)
  case atStart=>exact⟨0,aaL _,rfl,zX.out,aC.out⟩
  case round=>
   obtain⟨k,hk,rfl,hik,hb⟩:=hrel;clear zX;have HI:=ζ hik;have HB:=ζ hb;clear hik hb;by_cases hlt:k<ls.length
   .have aX:(k:Int)<(ls.length:Int):=by omega
    have hk0:(0:Int)<=(k:Int):=by omega
    obtain⟨l,hlk⟩:∃l,ls[k]? =some l:=⟨_,aaC hlt⟩;have hgd:ls.getD k []=l:=by rw[aaI,hlk];rfl
    obtain⟨b,o,A,C,rfl,hcell,hL,lO,-⟩:=HX.out k l hlk;have hbl:b<w.heap.size:=block_lt_of_cell hcell;have hcr:=(HB.out.cell (p:=⟨b,o+k,none⟩) hbl).trans hcell;have HL:=ζ hL;have gX:=ζ hlk;have TE:=ζ hcell;have CO:=ζ hgd;clear hcell hL hlk hgd;go_wp2;clear hcr;go_loopw [35] (fun c wr=>∃i:Nat,i<=l.length/\c= .int .i64 (i:Int)/\aq wr w1.heap.size (Ro.row l i (Ro.nx ls k (List.replicate M 0)))/\Below w.heap.size w wr) (fun c _=>l.length-(intOf c).toNat)
    case atStart=>exact⟨0,aaL _,rfl,HI.out,HB.out⟩
    case round=>
     clear HI HB;obtain⟨i,hil,rfl,Ve,hb⟩:=hrel;have HI:=ζ Ve;have HB:=ζ hb;have hcr:=(HB.out.cell (p:=⟨b,o+k,none⟩) hbl).trans TE.out;clear Ve hb;by_cases rz:i<l.length
     .have UX:(i:Int)<(l.length:Int):=by omega
      have aao:(0:Int)<=(i:Int):=by omega
      obtain⟨x,mX⟩:∃x,l[i]? =some x:=⟨_,aaC rz⟩;obtain⟨j,rfl,hj,-⟩:=Wn.out.half gX.out mX;have Yp:j<M:=by have:=HM.out;omega
      obtain⟨q,hq⟩:∃q,q=(i+1)%l.length:=⟨_,rfl⟩;have zE:q<l.length:=by rw[hq];exact acd _ (by omega)
      have RQ:((i:Int)+1).tmod (l.length:Int)=(q:Int):=by
       rw[acr (by omega),hq];exact(Int.natCast_emod (i+1) l.length).symm
      have aac:((i:Int)+1)%(l.length:Int)=(q:Int):=by
       rw[hq];exact(Int.natCast_emod (i+1) l.length).symm
      obtain⟨y,hy⟩:∃y,l[q]? =some y:=⟨_,aaC zE⟩;obtain⟨lb,lo',rfl,lc⟩:=HL.out.elem mX;obtain⟨lb',ZW,hle,Ue⟩:=HL.out.elem hy;cases hle;have Ji:lb<w.heap.size:=block_lt_of_cell lc;have c1:=(HB.out.cell (p:=⟨lb,lo'+i,none⟩) Ji).trans lc;have c2:=(HB.out.cell (p:=⟨lb,lo'+q,none⟩) Ji).trans Ue;have hrl:(Ro.row l i (Ro.nx ls k (List.replicate M 0))).length=M:=by rw[Ro.qN,Ro.vE];simp
      obtain⟨z,hz⟩:∃z,(Ro.row l i (Ro.nx ls k (List.replicate M 0)))[j]? =some z:=⟨_,aaC (by rw[hrl];exact Yp)⟩;have c3:=HI.out.cell hz;have c4:=HI.out.free j;have tI:Hid (aq (wr.setCell ⟨w1.heap.size,j,none⟩ (.int .i64 y)) w1.heap.size (Ro.row l (i+1) (Ro.nx ls k (List.replicate M 0)))):=by
       have h1:=HI.out.set j y;have e:Ro.row l (i+1) (Ro.nx ls k (List.replicate M 0))=(Ro.row l i (Ro.nx ls k (List.replicate M 0))).set j y:=by
        show(Ro.row l i _).set (l.getD i 0).toNat (l.getD ((i+1)%l.length) 0)=_;rw[<-hq,aaI,aaI,mX,hy];rfl
       rw[e];exact h1
      have hj0:(0:Int)<=(j:Int):=by omega
      have aam:(j:Int)<(M:Int):=by omega
      have GP:(0:Int)<=(q:Int):=by omega
      have aad:(q:Int)<(l.length:Int):=by omega
      have hlz:((l.length:Int)==0)=false:=beq_false_of_ne (by omega);have hwq:IntKind.i64.wrap (q:Int)=(q:Int):=by rw[aaK];omega
      have hwi:IntKind.i64.wrap ((i:Int)+1)=(i:Int)+1:=by rw[aaK];omega
      clear hq hy mX lc Ue hz hrl;go_wp2;go_roundw
      case rel=>exact⟨i+1,by omega,by go_num,tI.out,by first|exact HB.out.trans (eB (g:=w1.heap.size) _ (by omega))|exact(HB.out.trans (eB (g:=w1.heap.size) _ (by omega))).drew⟩
      case measure=>simp[intOf];omega
     .have UX:¬(i:Int)<(l.length:Int):=by omega
      obtain rfl:i=l.length:=by omega
      have tI:Hid (aq wr w1.heap.size (Ro.nx ls (k+1) (List.replicate M 0))):=by
       show aq wr w1.heap.size (Ro.row (ls.getD k []) (ls.getD k []).length _);rw[CO.out];exact HI.out
      go_wp2;go_roundw
      case rel=>exact⟨k+1,by omega,by go_num,tI.out,HB.out⟩
      case measure=>simp[intOf];omega
   .have aX:¬(k:Int)<(ls.length:Int):=by omega
    obtain rfl:k=ls.length:=by omega
    go_wp2;go_ret2;refine⟨HB.out,.inr ⟨HC.out,w1.heap.size,by rw[<-HM.out];rfl,by omega,?_⟩⟩;unfold Ro.gZ;rw[<-HM.out];exact HI.out
 .obtain⟨cv,hcv⟩:∃cv,cv=(Ro.check n es ls).1:=⟨_,rfl⟩
  obtain⟨cc,hcc⟩:∃cc,cc=(Ro.check n es ls).2:=⟨_,rfl⟩;rw[<-hcv,<-hcc] at ko;rw[<-hcc] at hc;have FR:=ζ hcc;have j1:(cc != 0)=true:=by simp[hc]
  have Zo:=ζ hc;clear hch hcv hcc hc;go_enter func257,ntmps257;go_wp2_with (go_at_call 86;refine ko.out.mono ?_;rintro e w1 ⟨rfl,hb⟩;refine aaH ?_);refine ζ ?_;have aN:=ζ (aW.out.trans (hb.mono aW.out.size));clear hb;go_wp2;go_ret2;refine⟨aN.out,.inl ⟨by rw[<-FR.out];exact Zo.out,by rw[<-FR.out];rfl⟩⟩
end
end Go.Proofs.YtdbjpbjocmcpkaaGreatDoor
