import Derived.Test.YtdbjpbjocmcpkaaGreatDoorMk35
import Derived.Laws.EntriesVeiled
set_option maxHeartbeats 4000000
set_option maxRecDepth 100000
namespace Go.Proofs.YtdbjpbjocmcpkaaGreatDoor
section
open Go.Proofs.Tryz
open Go.RowKit Go.Sort
theorem Ck.Ej (es:List (Int×Int)):∀(k:Nat) (ls:List (List Int)) (l':List Int),l'∈Ro.hls es k ls->∃l∈ls,l'.length=l.length
 |_,[],_,h=>by simp[Ro.hls] at h
 |k,l::ls,l',h=>by
  unfold Ro.hls at h;rcases aaW.1 h with e|e
  .exact⟨l,by simp,by rw[e,aaP]⟩
  .obtain⟨m,hm,e2⟩:=Ck.Ej es (k+1) ls l' e
   exact⟨m,by simp[hm],e2⟩
theorem bu.small {w:World} {xo:Option Addr} {ls:List (List Int)} (h:bu w xo ls):∀l∈ls,l.length<=17592186043904:=fun l hl=>by
 obtain⟨v,hv⟩:=abf hl;obtain⟨b,o,A,C,_,_,_,h1,_⟩:=h v l hv;exact h1
structure eO (pl:Bool) (n:Int) (ao:Option Addr) (ca:Nat) (es:List (Int×Int)) (ar:List (List Int)) (xs:List (Int×Int)) (xo eo:Option Addr) (xc ec:Nat) (w:World) (K g i:Nat) (wr:World):Prop where
 low:Below w.heap.size w wr
 ij:∀(j:Nat) (u:Value),(Cm pl)[j]? =some u->wr.cell? ⟨g,j,none⟩=some u
 box:∃r m,wr.heap[K]? =some (.cells #[.int .i64 n,.slice ao es.length ca,.bool pl,.slice xo ar.length xc,.slice eo xs.length ec,r,m] 68 (0,0))/\
  (3<=i->(pl=true->∃yo yc,r= .slice yo (Ro.hls es 0 ar).length yc/\bu wr yo (Ro.hls es 0 ar))/\(pl=false->∃yo yc,m= .slice yo (Ck.keep xs es).length yc/\aZ wr yo (Ck.keep xs es)))
 far:g≠K
 oP:1<=i->Si.valid n es=true
 uY:2<=i->Ck.may ⟨pl,ar,xs⟩=true
 OW:3<=i->(pl=true->(Ro.check n es (Ro.hls es 0 ar)).2=0)/\(pl=false->∀x∈xs,x∈es)
 Rk:4<=i->Ck.code n es ⟨pl,ar,xs⟩=0
section
variable {pl:Bool} {n:Int} {ao:Option Addr} {ca:Nat} {es:List (Int×Int)} {ar:List (List Int)} {xs:List (Int×Int)} {xo eo:Option Addr} {xc ec:Nat} {w:World} {K g i:Nat} {wr w':World}
theorem eO.later (h:eO pl n ao ca es ar xs xo eo xc ec w K g i wr) (hb:Below wr.heap.size wr w'):eO pl n ao ca es ar xs xo eo xc ec w K g i w':=by
 refine⟨h.low.trans (hb.mono h.low.size),fun j u hj=>(hb.cell (p:=⟨g,j,none⟩) (block_lt_of_cell (h.ij j u hj))).trans (h.ij j u hj),?_,h.far,h.oP,h.uY,h.OW,h.Rk⟩;obtain⟨r,m,h1,h2⟩:=h.box;refine⟨r,m,(hb.block _ (lt_of_block h1)).trans h1,fun h3=>⟨fun h4=> ?_,fun h4=> ?_⟩⟩
 .obtain⟨yo,yc,e,hr⟩:=(h2 h3).1 h4
  exact⟨yo,yc,e,hr.later hb⟩
 .obtain⟨yo,yc,e,hr⟩:=(h2 h3).2 h4
  exact⟨yo,yc,e,hr.later hb⟩
theorem eO.TU (h:eO pl n ao ca es ar xs xo eo xc ec w K g 0 wr) (h1:Si.valid n es=true):eO pl n ao ca es ar xs xo eo xc ec w K g 1 wr:=by
 obtain⟨r,m,hb,-⟩:=h.box;exact⟨h.low,h.ij,⟨r,m,hb,fun h=>by omega⟩,h.far,fun _=>h1,fun h=>by omega,fun h=>by omega,fun h=>by omega⟩
theorem eO.TT (h:eO pl n ao ca es ar xs xo eo xc ec w K g 1 wr) (h1:Ck.may ⟨pl,ar,xs⟩=true):eO pl n ao ca es ar xs xo eo xc ec w K g 2 wr:=by
 obtain⟨r,m,hb,-⟩:=h.box;exact⟨h.low,h.ij,⟨r,m,hb,fun h=>by omega⟩,h.far,fun _=>h.oP (by omega),fun _=>h1,fun h=>by omega,fun h=>by omega⟩
theorem eO.TQ (h:eO pl n ao ca es ar xs xo eo xc ec w K g 3 wr) (h1:Ck.code n es ⟨pl,ar,xs⟩=0):eO pl n ao ca es ar xs xo eo xc ec w K g 4 wr:=by
 obtain⟨r,m,hb,h2⟩:=h.box;exact⟨h.low,h.ij,⟨r,m,hb,fun _=>h2 (by omega)⟩,h.far,fun _=>h.oP (by omega),fun _=>h.uY (by omega),fun _=>h.OW (by omega),fun _=>h1⟩
theorem eO.TS (h:eO true n ao ca es ar xs xo eo xc ec w K g 2 wr) (hK:w.heap.size<=K) {r m:Value} (hb:w'.heap[K]? =some (.cells #[.int .i64 n,.slice ao es.length ca,.bool true,.slice xo ar.length xc,.slice eo xs.length ec,r,m] 68 (0,0))) (hw:aj (fun b=>b=K) wr w')
 (hc:(Ro.check n es (Ro.hls es 0 ar)).2=0) {B:Nat} {rs:List Value} (hr:ay w' B r rs (Ro.hls es 0 ar)) (hs:∀l∈ar,l.length<=17592186043904):eO true n ao ca es ar xs xo eo xc ec w K g 3 w':=by
 obtain⟨yo,yc,e,hr2,-⟩:=hr.rws fun l hl=>by
  obtain⟨l2,h2,e2⟩:=Ck.Ej es 0 ar l hl;rw[e2];exact hs l2 h2
 refine⟨h.low.trans (hw.below h.low.size fun b hb=>by rw[hb];exact hK),fun j u hj=> ?_,⟨r,m,hb,fun _=>⟨fun _=>⟨yo,yc,e,hr2⟩,fun h=>by cases h⟩⟩,h.far,fun _=>h.oP (by omega),fun _=>h.uY (by omega),fun _=>⟨fun _=>hc,fun h=>by cases h⟩,fun h=>by omega⟩;rw[abD (w:=wr) (hw.block g (block_lt_of_cell (h.ij j u hj)) h.far)];exact h.ij j u hj
theorem eO.TR (h:eO false n ao ca es ar xs xo eo xc ec w K g 2 wr) (hK:w.heap.size<=K) {r m:Value} (hb:w'.heap[K]? =some (.cells #[.int .i64 n,.slice ao es.length ca,.bool false,.slice xo ar.length xc,.slice eo xs.length ec,r,m] 68 (0,0))) (hw:aj (fun b=>b=K) wr w')
 (hc:∀x∈xs,x∈es) {B:Nat} (hr:av w' B m (Ck.keep xs es)):eO false n ao ca es ar xs xo eo xc ec w K g 3 w':=by
 obtain⟨yo,yc,e,hr2,-⟩:=hr.form;refine⟨h.low.trans (hw.below h.low.size fun b hb=>by rw[hb];exact hK),fun j u hj=> ?_,⟨r,m,hb,fun _=>⟨(fun h=>by cases h),fun _=>⟨yo,yc,e,hr2⟩⟩⟩,h.far,fun _=>h.oP (by omega),fun _=>h.uY (by omega),fun _=>⟨(fun h=>by cases h),fun _=>hc⟩,fun h=>by omega⟩;rw[abD (w:=wr) (hw.block g (block_lt_of_cell (h.ij j u hj)) h.far)];exact h.ij j u hj
end
namespace Ck
theorem oH {n:Int} {es:List (Int×Int)} {c:Ce.Cert} (h:Si.valid n es=false):code n es c=1:=by unfold code;rw[if_pos h]
theorem oG {n:Int} {es:List (Int×Int)} {c:Ce.Cert} (h:Si.valid n es=true) (h1:may c=false):code n es c=181:=by unfold code;rw[if_neg (by rw[h];decide),if_pos h1]
theorem gR {n:Int} {es:List (Int×Int)} {c:Ce.Cert} (h:Si.valid n es=true) (h1:may c=true) (h2:c.pl=true):code n es c=if (Ro.check n es (Ro.hls es 0 c.ar)).2≠0 then 182 else if Fa.gz n.toNat es (Ro.hls es 0 c.ar)=0 then 0 else 183:=by
 unfold code;rw[if_neg (by rw[h];decide),if_neg (by rw[h1];decide),if_pos h2]
open Classical in
theorem ju {n:Int} {es:List (Int×Int)} {c:Ce.Cert} (h:Si.valid n es=true) (h1:may c=true) (h2:c.pl=false):code n es c=if ¬ ∀x∈c.es,x∈es then 184 else if (Ku.kr n c.es).2.2.2.1=true then 0 else 185:=by
 unfold code;rw[if_neg (by rw[h];decide),if_neg (by rw[h1];decide),if_neg (by rw[h2];decide)]
theorem Mj {n:Int} {xs:List (Int×Int)} (h:Si.Val n xs):(Ku.kr n xs).2.2.2.2=0:=by
 unfold Ku.kr;rw[dif_pos h];cases Ku.gJ (Ku.rows xs h xs.length) xs n.toNat<;>rfl
end Ck
theorem tO {w w':World} (ht:iE w) (hb:Below w.heap.size w w'):iE w':=dB ht w' hb
theorem Cg (n:Int) (ao:Option Addr) (ca:Nat) (es:List (Int×Int)) (ar:List (List Int)) (xs:List (Int×Int)) (xo eo:Option Addr) (xc ec:Nat) (w:World) (he:ah w ao es) (hl:es.length<=4611686018427387904) (hs:Ce.jV w (.agg #[.bool true,.slice xo ar.length xc,.slice eo xs.length ec]) ⟨true,ar,xs⟩ xo eo xc ec) (hf:Ce.qB ⟨true,ar,xs⟩) (hx:bu w xo ar) (ht:iE w):
 Calls prog 10 #[.agg #[.int .i64 n,.slice ao es.length ca],.agg #[.bool true,.slice xo ar.length xc,.slice eo xs.length ec]] w fun e w'=>e= .returned (.int .i64 (Ck.code n es ⟨true,ar,xs⟩))/\Below w.heap.size w w':=by
 obtain⟨W,hW⟩:∃W,W=((w.alloc (.cells #[.int .i64 n,.slice ao es.length ca] 24)).alloc (.cells #[.bool true,.slice xo ar.length xc,.slice eo xs.length ec] 27)).alloc (.cells #[.int .i64 n,.slice ao es.length ca,.bool true,.slice xo ar.length xc,.slice eo xs.length ec,.slice none 0 0,.slice none 0 0] 68):=⟨_,rfl⟩;have hb0:Below w.heap.size w W:=by rw[hW];exact(((aaE _ _).alloc (aaD _) _).alloc (by simp) _).alloc (by simp;omega) _
 have hC:W.heap[w.heap.size+1]? =some (.cells #[.bool true,.slice xo ar.length xc,.slice eo xs.length ec] 27 (0,0)):=by
  rw[hW,aaO _ _ _ (by simp)];have:=heap_alloc_new (w.alloc (.cells #[.int .i64 n,.slice ao es.length ca] 24)) (.cells #[.bool true,.slice xo ar.length xc,.slice eo xs.length ec] 27);rwa[aa1] at this
 have hX:W.heap[w.heap.size+1+1]? =some (.cells #[.int .i64 n,.slice ao es.length ca,.bool true,.slice xo ar.length xc,.slice eo xs.length ec,.slice none 0 0,.slice none 0 0] 68 (0,0)):=by
  rw[hW];have:=heap_alloc_new ((w.alloc (.cells #[.int .i64 n,.slice ao es.length ca] 24)).alloc (.cells #[.bool true,.slice xo ar.length xc,.slice eo xs.length ec] 27)) (.cells #[.int .i64 n,.slice ao es.length ca,.bool true,.slice xo ar.length xc,.slice eo xs.length ec,.slice none 0 0,.slice none 0 0] 68);rwa[aa1,aa1] at this
 have HE:Hid (∀V,Below w.heap.size w V->ah V ao es):=fun V h=>he.later h
 have Fy:Hid (∀V,Below w.heap.size w V->Ce.jV V (.agg #[.bool true,.slice xo ar.length xc,.slice eo xs.length ec]) ⟨true,ar,xs⟩ xo eo xc ec):=fun V h=>hs.later h
 have yS:Hid (∀V,Below w.heap.size w V->bu V xo ar):=fun V h=>hx.later h
 have iG:Hid (∀V,Below w.heap.size w V->iE V):=fun V h=>tO ht h
 have Io:=ζ hx.small;have HF:=ζ hf;have HW:=ζ hW;have HX:=ζ hX;have aW:=ζ hb0;obtain⟨c0,-⟩:=aR hC;have Nl:=lt_of_block hC;clear he hs hf hx ht hW hb0 hC hX;go_enter func10,ntmps10
 go_upto_region 2 with fail
 rw[<-HW.out];go_wp2_with (go_at_call 29;refine(nB true W).mono ?_;rintro e w1 ⟨g,cd,rfl,hg,vh,hb1⟩;refine aaH ?_);refine ζ ?_;have vB:Hid (eO true n ao ca es ar xs xo eo xc ec w (w.heap.size+1+1) g 0 w1):=⟨aW.out.trans (hb1.mono aW.out.size),vh,⟨_,_,(hb1.block _ (lt_of_block HX.out)).trans HX.out,fun h=>by omega⟩,by have:=lt_of_block HX.out;omega,fun h=>by omega,fun h=>by omega,fun h=>by omega,fun h=>by omega⟩;clear vh hb1 c0 hg;go_wp2;go_loopw [15] (fun cv wr=>∃i:Nat,i<=4/\cv= .int .i64 i/\eO true n ao ca es ar xs xo eo xc ec w (w.heap.size+1+1) g i wr) (fun cv _=>4-(intOf cv).toNat)
 case atStart=>exact⟨0,by omega,rfl,vB.out⟩
 case round=>
  obtain⟨i,hi,rfl,Eo⟩:=hrel;obtain⟨w2,rfl⟩:∃w2,w2=wr:=⟨_,rfl⟩;have dM:=ζ Eo;have hsz2:=Eo.low.size;clear Eo;obtain rfl|rfl|rfl|rfl|rfl:i=0\/i=1\/i=2\/i=3\/i=4:=by omega
  .have d0:w2.cell? ⟨g,0,none⟩=some (.int .i64 1):=dM.out.ij 0 _ rfl
   have d1:w2.cell? ⟨g,1,none⟩=some (.func (.func 50) #[] #[]):=dM.out.ij 1 _ rfl;have hba:Below w2.heap.size w2 (w2.alloc (.cells #[.int .i64 1,.func (.func 50) #[] #[]] 73)):=(aaE _ _).alloc (aaD _) _;have bG:=ζ (dM.out.later hba);have fC:=ζ (heap_alloc_new w2 (.cells #[.int .i64 1,.func (.func 50) #[] #[]] 73));have mo:Hid (w.heap.size<=(w2.alloc (.cells #[.int .i64 1,.func (.func 50) #[] #[]] 73)).heap.size):=aaM hsz2 hba.size;have oW:Hid (w2.heap.size≠w.heap.size+1+1):=by
    show w2.heap.size≠w.heap.size+1+1;obtain⟨r,m,hb,-⟩:=dM.out.box;have:=lt_of_block hb;omega
   obtain⟨e0,e1,-⟩:=af fC.out;clear hba;obtain⟨r,m,cR,-⟩:=bG.out.box;have HV:=ζ (wV cR (HE.out _ bG.out.low) hl);clear cR;cases hval:Si.valid n es with
   |false=>
    rw[hval] at HV;have jF:=ζ (Ck.oH (c:=⟨true,ar,xs⟩) hval);clear hval;go_wp2_with (go_at_call 50;refine HV.out.mono ?_;rintro e w3 ⟨rfl,hb3⟩;obtain⟨f0,f1,-⟩:=af ((hb3.block _ (lt_of_block fC.out)).trans fC.out);have aK:=ζ (bG.out.low.trans (hb3.mono mo.out));clear hb3 d0 d1 e0 e1;refine aaH ?_);refine ζ ?_;go_wp2;go_ret;exact⟨by rw[jF.out];rfl,aK.out⟩
   |true=>
    rw[hval] at HV;have zS:=ζ hval;clear hval;go_wp2_with (go_at_call 50;refine HV.out.mono ?_;rintro e w3 ⟨rfl,hb3⟩;have kj:=ζ ((bG.out.later hb3).TU zS.out);clear hb3 d0 d1 e0 e1;refine aaH ?_);refine ζ ?_;go_wp2;go_roundw
    case rel=>exact⟨1,by omega,rfl,kj.out⟩
    case measure=>simp[intOf]
  .have d0:w2.cell? ⟨g,2,none⟩=some (.int .i64 181):=dM.out.ij 2 _ rfl
   have d1:w2.cell? ⟨g,3,none⟩=some (.func (.func 51) #[] #[]):=dM.out.ij 3 _ rfl;have hba:Below w2.heap.size w2 (w2.alloc (.cells #[.int .i64 181,.func (.func 51) #[] #[]] 73)):=(aaE _ _).alloc (aaD _) _;have bG:=ζ (dM.out.later hba);have fC:=ζ (heap_alloc_new w2 (.cells #[.int .i64 181,.func (.func 51) #[] #[]] 73));have mo:Hid (w.heap.size<=(w2.alloc (.cells #[.int .i64 181,.func (.func 51) #[] #[]] 73)).heap.size):=aaM hsz2 hba.size;have oW:Hid (w2.heap.size≠w.heap.size+1+1):=by
    show w2.heap.size≠w.heap.size+1+1;obtain⟨r,m,hb,-⟩:=dM.out.box;have:=lt_of_block hb;omega
   obtain⟨e0,e1,-⟩:=af fC.out;clear hba;obtain⟨r,m,cR,-⟩:=bG.out.box;have HV:=ζ (DM (c:=⟨true,ar,xs⟩) cR (Fy.out _ bG.out.low) HF.out (iG.out _ bG.out.low));have B5:=bG.out.oP (by omega);clear cR;cases hmay:Ck.may ⟨true,ar,xs⟩ with
   |false=>
    rw[hmay] at HV;have jF:=ζ (Ck.oG B5 hmay);clear hmay;go_wp2_with (go_at_call 51;refine HV.out.mono ?_;rintro e w3 ⟨rfl,hb3⟩;obtain⟨f0,f1,-⟩:=af ((hb3.block _ (lt_of_block fC.out)).trans fC.out);have aK:=ζ (bG.out.low.trans (hb3.mono mo.out));clear hb3 d0 d1 e0 e1;refine aaH ?_);refine ζ ?_;go_wp2;go_ret;exact⟨by rw[jF.out];rfl,aK.out⟩
   |true=>
    rw[hmay] at HV;have zS:=ζ hmay;clear hmay;go_wp2_with (go_at_call 51;refine HV.out.mono ?_;rintro e w3 ⟨rfl,hb3⟩;have kj:=ζ ((bG.out.later hb3).TT zS.out);clear hb3 d0 d1 e0 e1;refine aaH ?_);refine ζ ?_;go_wp2;go_roundw
    case rel=>exact⟨2,by omega,rfl,kj.out⟩
    case measure=>simp[intOf]
  .have d0:w2.cell? ⟨g,4,none⟩=some (.int .i64 182):=dM.out.ij 4 _ rfl
   have d1:w2.cell? ⟨g,5,none⟩=some (.func (.func 52) #[] #[]):=dM.out.ij 5 _ rfl;have hba:Below w2.heap.size w2 (w2.alloc (.cells #[.int .i64 182,.func (.func 52) #[] #[]] 73)):=(aaE _ _).alloc (aaD _) _;have bG:=ζ (dM.out.later hba);have fC:=ζ (heap_alloc_new w2 (.cells #[.int .i64 182,.func (.func 52) #[] #[]] 73));have mo:Hid (w.heap.size<=(w2.alloc (.cells #[.int .i64 182,.func (.func 52) #[] #[]] 73)).heap.size):=aaM hsz2 hba.size;have oW:Hid (w2.heap.size≠w.heap.size+1+1):=by
    show w2.heap.size≠w.heap.size+1+1;obtain⟨r,m,hb,-⟩:=dM.out.box;have:=lt_of_block hb;omega
   obtain⟨e0,e1,-⟩:=af fC.out;clear hba;obtain⟨r,m,cR,-⟩:=bG.out.box;have HV:=ζ (OJ (q2:= .bool true) cR (HE.out _ bG.out.low) hl (yS.out _ bG.out.low));have lQ:=Ck.gR (c:=⟨true,ar,xs⟩) (bG.out.oP (by omega)) (bG.out.uY (by omega)) rfl;clear cR;unfold CB at HV;by_cases hck:(Ro.check n es (Ro.hls es 0 ar)).2=0
   .have hdt:decide ((Ro.check n es (Ro.hls es 0 ar)).2=0)=true:=decide_eq_true hck
    rw[hdt] at HV;have ko:=ζ hck;clear hck lQ hdt;go_wp2_with (go_at_call 52;refine HV.out.mono ?_;rintro e w3 ⟨r3,rfl,rC,hw3,hr3⟩;obtain⟨rs,Uy⟩:=hr3 ko.out;have kj:=ζ (bG.out.TS (by omega) rC hw3 ko.out Uy Io.out);clear rC hw3 hr3 Uy d0 d1 e0 e1;refine aaH ?_);refine ζ ?_;go_wp2;go_roundw
    case rel=>exact⟨3,by omega,rfl,kj.out⟩
    case measure=>simp[intOf]
   .have hdt:decide ((Ro.check n es (Ro.hls es 0 ar)).2=0)=false:=decide_eq_false hck
    rw[hdt] at HV;have jF:Hid (Ck.code n es ⟨true,ar,xs⟩=182):=lQ.trans (if_pos hck);clear hck lQ hdt;go_wp2_with (go_at_call 52;refine HV.out.mono ?_;rintro e w3 ⟨r3,rfl,rC,hw3,-⟩;obtain⟨f0,f1,-⟩:=af ((hw3.block _ (lt_of_block fC.out) oW.out).trans fC.out);have aK:=ζ (bG.out.low.trans (hw3.below mo.out fun b hb=>by rw[hb];omega));clear rC hw3 d0 d1 e0 e1;refine aaH ?_);refine ζ ?_;go_wp2;go_ret;exact⟨by rw[jF.out];rfl,aK.out⟩
  .have d0:w2.cell? ⟨g,6,none⟩=some (.int .i64 183):=dM.out.ij 6 _ rfl
   have d1:w2.cell? ⟨g,7,none⟩=some (.func (.func 53) #[] #[]):=dM.out.ij 7 _ rfl;have hba:Below w2.heap.size w2 (w2.alloc (.cells #[.int .i64 183,.func (.func 53) #[] #[]] 73)):=(aaE _ _).alloc (aaD _) _;have bG:=ζ (dM.out.later hba);have fC:=ζ (heap_alloc_new w2 (.cells #[.int .i64 183,.func (.func 53) #[] #[]] 73));have mo:Hid (w.heap.size<=(w2.alloc (.cells #[.int .i64 183,.func (.func 53) #[] #[]] 73)).heap.size):=aaM hsz2 hba.size;have oW:Hid (w2.heap.size≠w.heap.size+1+1):=by
    show w2.heap.size≠w.heap.size+1+1;obtain⟨r,m,hb,-⟩:=dM.out.box;have:=lt_of_block hb;omega
   obtain⟨e0,e1,-⟩:=af fC.out;clear hba;obtain⟨r,m,cR,MA⟩:=bG.out.box;obtain⟨yo,yc,rfl,hrw⟩:=(MA (by omega)).1 rfl;have HV:=ζ (Kr cR (HE.out _ bG.out.low) hl hrw);have hck:=(bG.out.OW (by omega)).1 rfl;have lQ:=Ck.gR (c:=⟨true,ar,xs⟩) (bG.out.oP (by omega)) (bG.out.uY (by omega)) rfl;rw[if_neg (fun h=>h hck)] at lQ;clear cR MA hrw;by_cases oV:Fa.gz n.toNat es (Ro.hls es 0 ar)=0
   .have hdt:decide ((Ro.check n es (Ro.hls es 0 ar)).2=0/\Fa.gz n.toNat es (Ro.hls es 0 ar)=0)=true:=decide_eq_true ⟨hck,oV⟩
    rw[hdt] at HV;have jF:Hid (Ck.code n es ⟨true,ar,xs⟩=0):=lQ.trans (if_pos oV);clear hck lQ hdt oV;go_wp2_with (go_at_call 53;refine HV.out.mono ?_;rintro e w3 ⟨rfl,hb3⟩;have kj:=ζ ((bG.out.later hb3).TQ jF.out);clear hb3 d0 d1 e0 e1;refine aaH ?_);refine ζ ?_;go_wp2;go_roundw
    case rel=>exact⟨4,by omega,rfl,kj.out⟩
    case measure=>simp[intOf]
   .have hdt:decide ((Ro.check n es (Ro.hls es 0 ar)).2=0/\Fa.gz n.toNat es (Ro.hls es 0 ar)=0)=false:=decide_eq_false (fun h=>oV h.2)
    rw[hdt] at HV;have jF:Hid (Ck.code n es ⟨true,ar,xs⟩=183):=lQ.trans (if_neg oV);clear hck lQ hdt oV;go_wp2_with (go_at_call 53;refine HV.out.mono ?_;rintro e w3 ⟨rfl,hb3⟩;obtain⟨f0,f1,-⟩:=af ((hb3.block _ (lt_of_block fC.out)).trans fC.out);have aK:=ζ (bG.out.low.trans (hb3.mono mo.out));clear hb3 d0 d1 e0 e1;refine aaH ?_);refine ζ ?_;go_wp2;go_ret;exact⟨by rw[jF.out];rfl,aK.out⟩
  .have jF:=ζ (dM.out.Rk (by omega))
   have FI:=ζ dM.out.low;go_wp2;go_ret;exact⟨by rw[jF.out];rfl,FI.out⟩
theorem EF (n:Int) (ao:Option Addr) (ca:Nat) (es:List (Int×Int)) (ar:List (List Int)) (xs:List (Int×Int)) (xo eo:Option Addr) (xc ec:Nat) (w:World) (he:ah w ao es) (hl:es.length<=4611686018427387904) (hs:Ce.jV w (.agg #[.bool false,.slice xo ar.length xc,.slice eo xs.length ec]) ⟨false,ar,xs⟩ xo eo xc ec) (hf:Ce.qB ⟨false,ar,xs⟩) (hx:bu w xo ar) (ht:iE w):
 Calls prog 10 #[.agg #[.int .i64 n,.slice ao es.length ca],.agg #[.bool false,.slice xo ar.length xc,.slice eo xs.length ec]] w fun e w'=>e= .returned (.int .i64 (Ck.code n es ⟨false,ar,xs⟩))/\Below w.heap.size w w':=by
 obtain⟨W,hW⟩:∃W,W=((w.alloc (.cells #[.int .i64 n,.slice ao es.length ca] 24)).alloc (.cells #[.bool false,.slice xo ar.length xc,.slice eo xs.length ec] 27)).alloc (.cells #[.int .i64 n,.slice ao es.length ca,.bool false,.slice xo ar.length xc,.slice eo xs.length ec,.slice none 0 0,.slice none 0 0] 68):=⟨_,rfl⟩;have hb0:Below w.heap.size w W:=by rw[hW];exact(((aaE _ _).alloc (aaD _) _).alloc (by simp) _).alloc (by simp;omega) _
 have hC:W.heap[w.heap.size+1]? =some (.cells #[.bool false,.slice xo ar.length xc,.slice eo xs.length ec] 27 (0,0)):=by
  rw[hW,aaO _ _ _ (by simp)];have:=heap_alloc_new (w.alloc (.cells #[.int .i64 n,.slice ao es.length ca] 24)) (.cells #[.bool false,.slice xo ar.length xc,.slice eo xs.length ec] 27);rwa[aa1] at this
 have hX:W.heap[w.heap.size+1+1]? =some (.cells #[.int .i64 n,.slice ao es.length ca,.bool false,.slice xo ar.length xc,.slice eo xs.length ec,.slice none 0 0,.slice none 0 0] 68 (0,0)):=by
  rw[hW];have:=heap_alloc_new ((w.alloc (.cells #[.int .i64 n,.slice ao es.length ca] 24)).alloc (.cells #[.bool false,.slice xo ar.length xc,.slice eo xs.length ec] 27)) (.cells #[.int .i64 n,.slice ao es.length ca,.bool false,.slice xo ar.length xc,.slice eo xs.length ec,.slice none 0 0,.slice none 0 0] 68);rwa[aa1,aa1] at this
 have HE:Hid (∀V,Below w.heap.size w V->ah V ao es):=fun V h=>he.later h
 have Fy:Hid (∀V,Below w.heap.size w V->Ce.jV V (.agg #[.bool false,.slice xo ar.length xc,.slice eo xs.length ec]) ⟨false,ar,xs⟩ xo eo xc ec):=fun V h=>hs.later h
 have yS:Hid (∀V,Below w.heap.size w V->bu V xo ar):=fun V h=>hx.later h
 have iG:Hid (∀V,Below w.heap.size w V->iE V):=fun V h=>tO ht h
 have Io:=ζ hx.small;have HF:=ζ hf;have HW:=ζ hW;have HX:=ζ hX;have aW:=ζ hb0;obtain⟨c0,-⟩:=aR hC;have Nl:=lt_of_block hC;clear he hs hf hx ht hW hb0 hC hX;go_enter func10,ntmps10
 go_upto_region 2 with fail
 rw[<-HW.out];go_wp2_with (go_at_call 29;refine(nB false W).mono ?_;rintro e w1 ⟨g,cd,rfl,hg,vh,hb1⟩;refine aaH ?_);refine ζ ?_;have vB:Hid (eO false n ao ca es ar xs xo eo xc ec w (w.heap.size+1+1) g 0 w1):=⟨aW.out.trans (hb1.mono aW.out.size),vh,⟨_,_,(hb1.block _ (lt_of_block HX.out)).trans HX.out,fun h=>by omega⟩,by have:=lt_of_block HX.out;omega,fun h=>by omega,fun h=>by omega,fun h=>by omega,fun h=>by omega⟩;clear vh hb1 c0 hg;go_wp2;go_loopw [15] (fun cv wr=>∃i:Nat,i<=4/\cv= .int .i64 i/\eO false n ao ca es ar xs xo eo xc ec w (w.heap.size+1+1) g i wr) (fun cv _=>4-(intOf cv).toNat)
 case atStart=>exact⟨0,by omega,rfl,vB.out⟩
 case round=>
  obtain⟨i,hi,rfl,Eo⟩:=hrel;obtain⟨w2,rfl⟩:∃w2,w2=wr:=⟨_,rfl⟩;have dM:=ζ Eo;have hsz2:=Eo.low.size;clear Eo;obtain rfl|rfl|rfl|rfl|rfl:i=0\/i=1\/i=2\/i=3\/i=4:=by omega
  .have d0:w2.cell? ⟨g,0,none⟩=some (.int .i64 1):=dM.out.ij 0 _ rfl
   have d1:w2.cell? ⟨g,1,none⟩=some (.func (.func 50) #[] #[]):=dM.out.ij 1 _ rfl;have hba:Below w2.heap.size w2 (w2.alloc (.cells #[.int .i64 1,.func (.func 50) #[] #[]] 73)):=(aaE _ _).alloc (aaD _) _;have bG:=ζ (dM.out.later hba);have fC:=ζ (heap_alloc_new w2 (.cells #[.int .i64 1,.func (.func 50) #[] #[]] 73));have mo:Hid (w.heap.size<=(w2.alloc (.cells #[.int .i64 1,.func (.func 50) #[] #[]] 73)).heap.size):=aaM hsz2 hba.size;have oW:Hid (w2.heap.size≠w.heap.size+1+1):=by
    show w2.heap.size≠w.heap.size+1+1;obtain⟨r,m,hb,-⟩:=dM.out.box;have:=lt_of_block hb;omega
   obtain⟨e0,e1,-⟩:=af fC.out;clear hba;obtain⟨r,m,cR,-⟩:=bG.out.box;have HV:=ζ (wV cR (HE.out _ bG.out.low) hl);clear cR;cases hval:Si.valid n es with
   |false=>
    rw[hval] at HV;have jF:=ζ (Ck.oH (c:=⟨false,ar,xs⟩) hval);clear hval;go_wp2_with (go_at_call 50;refine HV.out.mono ?_;rintro e w3 ⟨rfl,hb3⟩;obtain⟨f0,f1,-⟩:=af ((hb3.block _ (lt_of_block fC.out)).trans fC.out);have aK:=ζ (bG.out.low.trans (hb3.mono mo.out));clear hb3 d0 d1 e0 e1;refine aaH ?_);refine ζ ?_;go_wp2;go_ret;exact⟨by rw[jF.out];rfl,aK.out⟩
   |true=>
    rw[hval] at HV;have zS:=ζ hval;clear hval;go_wp2_with (go_at_call 50;refine HV.out.mono ?_;rintro e w3 ⟨rfl,hb3⟩;have kj:=ζ ((bG.out.later hb3).TU zS.out);clear hb3 d0 d1 e0 e1;refine aaH ?_);refine ζ ?_;go_wp2;go_roundw
    case rel=>exact⟨1,by omega,rfl,kj.out⟩
    case measure=>simp[intOf]
  .have d0:w2.cell? ⟨g,2,none⟩=some (.int .i64 181):=dM.out.ij 2 _ rfl
   have d1:w2.cell? ⟨g,3,none⟩=some (.func (.func 51) #[] #[]):=dM.out.ij 3 _ rfl;have hba:Below w2.heap.size w2 (w2.alloc (.cells #[.int .i64 181,.func (.func 51) #[] #[]] 73)):=(aaE _ _).alloc (aaD _) _;have bG:=ζ (dM.out.later hba);have fC:=ζ (heap_alloc_new w2 (.cells #[.int .i64 181,.func (.func 51) #[] #[]] 73));have mo:Hid (w.heap.size<=(w2.alloc (.cells #[.int .i64 181,.func (.func 51) #[] #[]] 73)).heap.size):=aaM hsz2 hba.size;have oW:Hid (w2.heap.size≠w.heap.size+1+1):=by
    show w2.heap.size≠w.heap.size+1+1;obtain⟨r,m,hb,-⟩:=dM.out.box;have:=lt_of_block hb;omega
   obtain⟨e0,e1,-⟩:=af fC.out;clear hba;obtain⟨r,m,cR,-⟩:=bG.out.box;have HV:=ζ (DM (c:=⟨false,ar,xs⟩) cR (Fy.out _ bG.out.low) HF.out (iG.out _ bG.out.low));have B5:=bG.out.oP (by omega);clear cR;cases hmay:Ck.may ⟨false,ar,xs⟩ with
   |false=>
    rw[hmay] at HV;have jF:=ζ (Ck.oG B5 hmay);clear hmay;go_wp2_with (go_at_call 51;refine HV.out.mono ?_;rintro e w3 ⟨rfl,hb3⟩;obtain⟨f0,f1,-⟩:=af ((hb3.block _ (lt_of_block fC.out)).trans fC.out);have aK:=ζ (bG.out.low.trans (hb3.mono mo.out));clear hb3 d0 d1 e0 e1;refine aaH ?_);refine ζ ?_;go_wp2;go_ret;exact⟨by rw[jF.out];rfl,aK.out⟩
   |true=>
    rw[hmay] at HV;have zS:=ζ hmay;clear hmay;go_wp2_with (go_at_call 51;refine HV.out.mono ?_;rintro e w3 ⟨rfl,hb3⟩;have kj:=ζ ((bG.out.later hb3).TT zS.out);clear hb3 d0 d1 e0 e1;refine aaH ?_);refine ζ ?_;go_wp2;go_roundw
    case rel=>exact⟨2,by omega,rfl,kj.out⟩
    case measure=>simp[intOf]
  .have d0:w2.cell? ⟨g,4,none⟩=some (.int .i64 184):=dM.out.ij 4 _ rfl
   have d1:w2.cell? ⟨g,5,none⟩=some (.func (.func 54) #[] #[]):=dM.out.ij 5 _ rfl;have hba:Below w2.heap.size w2 (w2.alloc (.cells #[.int .i64 184,.func (.func 54) #[] #[]] 73)):=(aaE _ _).alloc (aaD _) _;have bG:=ζ (dM.out.later hba);have fC:=ζ (heap_alloc_new w2 (.cells #[.int .i64 184,.func (.func 54) #[] #[]] 73));have mo:Hid (w.heap.size<=(w2.alloc (.cells #[.int .i64 184,.func (.func 54) #[] #[]] 73)).heap.size):=aaM hsz2 hba.size;have oW:Hid (w2.heap.size≠w.heap.size+1+1):=by
    show w2.heap.size≠w.heap.size+1+1;obtain⟨r,m,hb,-⟩:=dM.out.box;have:=lt_of_block hb;omega
   obtain⟨e0,e1,-⟩:=af fC.out;clear hba;obtain⟨r,m,cR,-⟩:=bG.out.box;have hval:=Si.aJ.1 (bG.out.oP (by omega));have HV:=ζ (L6 (q2:= .bool false) cR (HE.out _ bG.out.low) hval.few (Fy.out _ bG.out.low).es HF.out.es);have lQ:=Ck.ju (c:=⟨false,ar,xs⟩) (bG.out.oP (by omega)) (bG.out.uY (by omega)) rfl;have hok:Ce.J7 xs:=by
    have:=(Ck.BP (bG.out.uY (by omega))).1;unfold Ce.good at this;rw[if_neg (fun h=>by cases h)] at this;exact this.2.1
   have hiff:=Ck.oq hval hok;clear cR hok;unfold yN at HV;by_cases hck:(Ck.aP xs es 0).length=xs.length
   .have hdt:decide ((Ck.aP xs es 0).length=xs.length)=true:=decide_eq_true hck
    rw[hdt] at HV;have ko:=ζ (hiff.1 hck);clear hck lQ hdt hiff hval;go_wp2_with (go_at_call 54;refine HV.out.mono ?_;rintro e w3 ⟨r3,rfl,rC,hw3,hr3⟩;have kj:=ζ (bG.out.TR (by omega) rC hw3 ko.out hr3);clear rC hw3 hr3 d0 d1 e0 e1;refine aaH ?_);refine ζ ?_;go_wp2;go_roundw
    case rel=>exact⟨3,by omega,rfl,kj.out⟩
    case measure=>simp[intOf]
   .have hdt:decide ((Ck.aP xs es 0).length=xs.length)=false:=decide_eq_false hck
    rw[hdt] at HV;have jF:Hid (Ck.code n es ⟨false,ar,xs⟩=184):=lQ.trans (if_pos (fun h=>hck (hiff.2 h)));clear hck lQ hdt hiff hval;go_wp2_with (go_at_call 54;refine HV.out.mono ?_;rintro e w3 ⟨r3,rfl,rC,hw3,-⟩;obtain⟨f0,f1,-⟩:=af ((hw3.block _ (lt_of_block fC.out) oW.out).trans fC.out);have aK:=ζ (bG.out.low.trans (hw3.below mo.out fun b hb=>by rw[hb];omega));clear rC hw3 d0 d1 e0 e1;refine aaH ?_);refine ζ ?_;go_wp2;go_ret;exact⟨by rw[jF.out];rfl,aK.out⟩
  .have d0:w2.cell? ⟨g,6,none⟩=some (.int .i64 185):=dM.out.ij 6 _ rfl
   have d1:w2.cell? ⟨g,7,none⟩=some (.func (.func 55) #[] #[]):=dM.out.ij 7 _ rfl;have hba:Below w2.heap.size w2 (w2.alloc (.cells #[.int .i64 185,.func (.func 55) #[] #[]] 73)):=(aaE _ _).alloc (aaD _) _;have bG:=ζ (dM.out.later hba);have fC:=ζ (heap_alloc_new w2 (.cells #[.int .i64 185,.func (.func 55) #[] #[]] 73));have mo:Hid (w.heap.size<=(w2.alloc (.cells #[.int .i64 185,.func (.func 55) #[] #[]] 73)).heap.size):=aaM hsz2 hba.size;have oW:Hid (w2.heap.size≠w.heap.size+1+1):=by
    show w2.heap.size≠w.heap.size+1+1;obtain⟨r,m,hb,-⟩:=dM.out.box;have:=lt_of_block hb;omega
   obtain⟨e0,e1,-⟩:=af fC.out;clear hba;obtain⟨r,m,cR,MA⟩:=bG.out.box;obtain⟨yo,yc,rfl,hrw⟩:=(MA (by omega)).2 rfl;have hval:=Si.aJ.1 (bG.out.oP (by omega));have hin:=(bG.out.OW (by omega)).2 rfl;have hok:Ce.J7 xs:=by
    have:=(Ck.BP (bG.out.uY (by omega))).1;unfold Ce.good at this;rw[if_neg (fun h=>by cases h)] at this;exact this.2.1
   have iz:=(Ck.oq hval hok).2 hin;have hsub:Ed.sub n es (Ck.keep xs es)=(n,xs,0):=by
    unfold Ed.sub;rw[if_neg (by rw[bG.out.oP (by omega)];decide),if_neg (fun h=>h Ck.Ml),Ck.JT iz]
   have pX:Si.Val n xs:=Ck.val_sub hval (Ck.iL es xs 0 iz);have hk0:(Ku.kr n xs).2.2.2.2=0:=Ck.Mj pX;have hkl:(Ck.keep xs es).length<=4611686018427387904:=by rw[Ck.sJ];have:=(Ck.ot es xs 0).2;omega
   have HV:=ζ (Kq cR (HE.out _ bG.out.low) hval.few hrw hkl hsub (by have:=pX.few;omega) hk0);have lQ:=Ck.ju (c:=⟨false,ar,xs⟩) (bG.out.oP (by omega)) (bG.out.uY (by omega)) rfl;rw[if_neg (fun h=>h hin)] at lQ;clear cR MA hrw hok iz hsub hk0 hkl hin hval pX;cases oV:(Ku.kr n xs).2.2.2.1 with
   |true=>
    rw[oV] at HV;have jF:Hid (Ck.code n es ⟨false,ar,xs⟩=0):=lQ.trans (if_pos oV);clear lQ oV;go_wp2_with (go_at_call 55;refine HV.out.mono ?_;rintro e w3 ⟨rfl,hb3⟩;have kj:=ζ ((bG.out.later hb3).TQ jF.out);clear hb3 d0 d1 e0 e1;refine aaH ?_);refine ζ ?_;go_wp2;go_roundw
    case rel=>exact⟨4,by omega,rfl,kj.out⟩
    case measure=>simp[intOf]
   |false=>
    rw[oV] at HV;have jF:Hid (Ck.code n es ⟨false,ar,xs⟩=185):=lQ.trans (if_neg (by rw[oV];decide));clear lQ oV;go_wp2_with (go_at_call 55;refine HV.out.mono ?_;rintro e w3 ⟨rfl,hb3⟩;obtain⟨f0,f1,-⟩:=af ((hb3.block _ (lt_of_block fC.out)).trans fC.out);have aK:=ζ (bG.out.low.trans (hb3.mono mo.out));clear hb3 d0 d1 e0 e1;refine aaH ?_);refine ζ ?_;go_wp2;go_ret;exact⟨by rw[jF.out];rfl,aK.out⟩
  .have jF:=ζ (dM.out.Rk (by omega))
   have FI:=ζ dM.out.low;go_wp2;go_ret;exact⟨by rw[jF.out];rfl,FI.out⟩
theorem lU (n:Int) (ao:Option Addr) (ca:Nat) (es:List (Int×Int)) (c:Ce.Cert) (v:Value) (xo eo:Option Addr) (xc ec:Nat) (w:World) (he:ah w ao es) (hl:es.length<=4611686018427387904) (hs:Ce.jV w v c xo eo xc ec) (hf:Ce.qB c) (hx:bu w xo c.ar) (ht:iE w):
 Calls prog 10 #[.agg #[.int .i64 n,.slice ao es.length ca],v] w fun e w'=>e= .returned (.int .i64 (Ck.code n es c))/\Below w.heap.size w w':=by
 have hv:=hs.val;subst hv;obtain⟨pl,ar,xs⟩:=c;cases pl
 .exact EF n ao ca es ar xs xo eo xc ec w he hl hs hf hx ht
 .exact Cg n ao ca es ar xs xo eo xc ec w he hl hs hf hx ht
end
end Go.Proofs.YtdbjpbjocmcpkaaGreatDoor
