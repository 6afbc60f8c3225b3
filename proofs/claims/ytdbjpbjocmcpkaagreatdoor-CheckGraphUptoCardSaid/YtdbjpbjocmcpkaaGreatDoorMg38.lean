import Derived.Test.YtdbjpbjocmcpkaaGreatDoorMg37
import Derived.Laws.EntriesVeiled
set_option maxHeartbeats 4000000
set_option maxRecDepth 100000
namespace Go.Proofs.YtdbjpbjocmcpkaaGreatDoor
section
open Go.Proofs.Tryz
open Go.RowKit Go.Sort
theorem Ck.BI (es:List (Int×Int)):∀(k:Nat) (ls:List (List Int)) (l':List Int),l'∈Ro.hls es k ls->∃l∈ls,l'.length=l.length
 |_,[],_,h=>by simp[Ro.hls] at h
 |k,l::ls,l',h=>by
  unfold Ro.hls at h;rcases aaU.1 h with e|e
  .exact⟨l,by simp,by rw[e,aaE]⟩
  .obtain⟨m,hm,e2⟩:=Ck.BI es (k+1) ls l' e
   exact⟨m,by simp[hm],e2⟩
theorem bA.small {w:World} {xo:Option Addr} {ls:List (List Int)} (h:bA w xo ls):∀l∈ls,l.length<=17592186043904:=fun l hl=>by
 obtain⟨v,hv⟩:=aaS hl;obtain⟨b,o,A,C,_,_,_,h1,_⟩:=h v l hv;exact h1
structure gC (pl:Bool) (n:Int) (ao:Option Addr) (ca:Nat) (es:List (Int×Int)) (ar:List (List Int)) (xs:List (Int×Int)) (xo eo:Option Addr) (xc ec:Nat) (w:World) (K g i:Nat) (wr:World):Prop where
 low:Below w.heap.size w wr
 j7:∀(j:Nat) (u:Value),(GG pl)[j]? =some u->wr.cell? ⟨g,j,none⟩=some u
 box:∃r m,wr.heap[K]? =some (.cells #[.int .i64 n,.slice ao es.length ca,.bool pl,.slice xo ar.length xc,.slice eo xs.length ec,r,m] 68 (0,0))/\
  (3<=i->(pl=true->∃yo yc,r= .slice yo (Ro.hls es 0 ar).length yc/\bA wr yo (Ro.hls es 0 ar))/\(pl=false->∃yo yc,m= .slice yo (Ck.keep xs es).length yc/\aU wr yo (Ck.keep xs es)))
 far:g≠K
 sB:1<=i->Si.valid n es=true
 zH:2<=i->Ck.may ⟨pl,ar,xs⟩=true
 Uo:3<=i->(pl=true->(Ro.check n es (Ro.hls es 0 ar)).2=0)/\(pl=false->∀x∈xs,x∈es)
 Xf:4<=i->Ck.code n es ⟨pl,ar,xs⟩=0
section
variable {pl:Bool} {n:Int} {ao:Option Addr} {ca:Nat} {es:List (Int×Int)} {ar:List (List Int)} {xs:List (Int×Int)} {xo eo:Option Addr} {xc ec:Nat} {w:World} {K g i:Nat} {wr w':World}
theorem gC.later (h:gC pl n ao ca es ar xs xo eo xc ec w K g i wr) (hb:Below wr.heap.size wr w'):gC pl n ao ca es ar xs xo eo xc ec w K g i w':=by
 refine⟨h.low.trans (hb.mono h.low.size),fun j u hj=>(hb.cell (p:=⟨g,j,none⟩) (block_lt_of_cell (h.j7 j u hj))).trans (h.j7 j u hj),?_,h.far,h.sB,h.zH,h.Uo,h.Xf⟩;obtain⟨r,m,h1,h2⟩:=h.box;refine⟨r,m,(hb.block _ (lt_of_block h1)).trans h1,fun h3=>⟨fun h4=> ?_,fun h4=> ?_⟩⟩
 .obtain⟨yo,yc,e,hr⟩:=(h2 h3).1 h4
  exact⟨yo,yc,e,hr.later hb⟩
 .obtain⟨yo,yc,e,hr⟩:=(h2 h3).2 h4
  exact⟨yo,yc,e,hr.later hb⟩
theorem gC.ZW (h:gC pl n ao ca es ar xs xo eo xc ec w K g 0 wr) (h1:Si.valid n es=true):gC pl n ao ca es ar xs xo eo xc ec w K g 1 wr:=by
 obtain⟨r,m,hb,-⟩:=h.box;exact⟨h.low,h.j7,⟨r,m,hb,fun h=>by omega⟩,h.far,fun _=>h1,fun h=>by omega,fun h=>by omega,fun h=>by omega⟩
theorem gC.ZV (h:gC pl n ao ca es ar xs xo eo xc ec w K g 1 wr) (h1:Ck.may ⟨pl,ar,xs⟩=true):gC pl n ao ca es ar xs xo eo xc ec w K g 2 wr:=by
 obtain⟨r,m,hb,-⟩:=h.box;exact⟨h.low,h.j7,⟨r,m,hb,fun h=>by omega⟩,h.far,fun _=>h.sB (by omega),fun _=>h1,fun h=>by omega,fun h=>by omega⟩
theorem gC.ZR (h:gC pl n ao ca es ar xs xo eo xc ec w K g 3 wr) (h1:Ck.code n es ⟨pl,ar,xs⟩=0):gC pl n ao ca es ar xs xo eo xc ec w K g 4 wr:=by
 obtain⟨r,m,hb,h2⟩:=h.box;exact⟨h.low,h.j7,⟨r,m,hb,fun _=>h2 (by omega)⟩,h.far,fun _=>h.sB (by omega),fun _=>h.zH (by omega),fun _=>h.Uo (by omega),fun _=>h1⟩
theorem gC.ZU (h:gC true n ao ca es ar xs xo eo xc ec w K g 2 wr) (hK:w.heap.size<=K) {r m:Value} (hb:w'.heap[K]? =some (.cells #[.int .i64 n,.slice ao es.length ca,.bool true,.slice xo ar.length xc,.slice eo xs.length ec,r,m] 68 (0,0))) (hw:aq (fun b=>b=K) wr w')
 (hc:(Ro.check n es (Ro.hls es 0 ar)).2=0) {B:Nat} {rs:List Value} (hr:ay w' B r rs (Ro.hls es 0 ar)) (hs:∀l∈ar,l.length<=17592186043904):gC true n ao ca es ar xs xo eo xc ec w K g 3 w':=by
 obtain⟨yo,yc,e,hr2,-⟩:=hr.rws fun l hl=>by
  obtain⟨l2,h2,e2⟩:=Ck.BI es 0 ar l hl;rw[e2];exact hs l2 h2
 refine⟨h.low.trans (hw.below h.low.size fun b hb=>by rw[hb];exact hK),fun j u hj=> ?_,⟨r,m,hb,fun _=>⟨fun _=>⟨yo,yc,e,hr2⟩,fun h=>by cases h⟩⟩,h.far,fun _=>h.sB (by omega),fun _=>h.zH (by omega),fun _=>⟨fun _=>hc,fun h=>by cases h⟩,fun h=>by omega⟩;rw[abJ (w:=wr) (hw.block g (block_lt_of_cell (h.j7 j u hj)) h.far)];exact h.j7 j u hj
theorem gC.ZT (h:gC false n ao ca es ar xs xo eo xc ec w K g 2 wr) (hK:w.heap.size<=K) {r m:Value} (hb:w'.heap[K]? =some (.cells #[.int .i64 n,.slice ao es.length ca,.bool false,.slice xo ar.length xc,.slice eo xs.length ec,r,m] 68 (0,0))) (hw:aq (fun b=>b=K) wr w')
 (hc:∀x∈xs,x∈es) {B:Nat} (hr:aj w' B m (Ck.keep xs es)):gC false n ao ca es ar xs xo eo xc ec w K g 3 w':=by
 obtain⟨yo,yc,e,hr2,-⟩:=hr.form;refine⟨h.low.trans (hw.below h.low.size fun b hb=>by rw[hb];exact hK),fun j u hj=> ?_,⟨r,m,hb,fun _=>⟨(fun h=>by cases h),fun _=>⟨yo,yc,e,hr2⟩⟩⟩,h.far,fun _=>h.sB (by omega),fun _=>h.zH (by omega),fun _=>⟨(fun h=>by cases h),fun _=>hc⟩,fun h=>by omega⟩;rw[abJ (w:=wr) (hw.block g (block_lt_of_cell (h.j7 j u hj)) h.far)];exact h.j7 j u hj
end
namespace Ck
theorem rZ {n:Int} {es:List (Int×Int)} {c:Ce.Cert} (h:Si.valid n es=false):code n es c=1:=by unfold code;rw[if_pos h]
theorem rY {n:Int} {es:List (Int×Int)} {c:Ce.Cert} (h:Si.valid n es=true) (h1:may c=false):code n es c=181:=by unfold code;rw[if_neg (by rw[h];decide),if_pos h1]
theorem qT {n:Int} {es:List (Int×Int)} {c:Ce.Cert} (h:Si.valid n es=true) (h1:may c=true) (h2:c.pl=true):code n es c=if (Ro.check n es (Ro.hls es 0 c.ar)).2≠0 then 182 else if Fa.gz n.toNat es (Ro.hls es 0 c.ar)=0 then 0 else 183:=by
 unfold code;rw[if_neg (by rw[h];decide),if_neg (by rw[h1];decide),if_pos h2]
open Classical in
theorem wC {n:Int} {es:List (Int×Int)} {c:Ce.Cert} (h:Si.valid n es=true) (h1:may c=true) (h2:c.pl=false):code n es c=if ¬ ∀x∈c.es,x∈es then 184 else if (Ku.kr n c.es).2.2.2.1=true then 0 else 185:=by
 unfold code;rw[if_neg (by rw[h];decide),if_neg (by rw[h1];decide),if_neg (by rw[h2];decide)]
theorem Q9 {n:Int} {xs:List (Int×Int)} (h:Si.Val n xs):(Ku.kr n xs).2.2.2.2=0:=by
 unfold Ku.kr;rw[dif_pos h];cases Ku.je (Ku.rows xs h xs.length) xs n.toNat<;>rfl
end Ck
theorem yu {w w':World} (ht:kO w) (hb:Below w.heap.size w w'):kO w':=eZ ht w' hb
theorem Gz (n:Int) (ao:Option Addr) (ca:Nat) (es:List (Int×Int)) (ar:List (List Int)) (xs:List (Int×Int)) (xo eo:Option Addr) (xc ec:Nat) (w:World) (he:ah w ao es) (hl:es.length<=4611686018427387904) (hs:Ce.iD w (.agg #[.bool true,.slice xo ar.length xc,.slice eo xs.length ec]) ⟨true,ar,xs⟩ xo eo xc ec) (hf:Ce.vg ⟨true,ar,xs⟩) (hx:bA w xo ar) (ht:kO w):
 Calls prog 10 #[.agg #[.int .i64 n,.slice ao es.length ca],.agg #[.bool true,.slice xo ar.length xc,.slice eo xs.length ec]] w fun e w'=>e= .returned (.int .i64 (Ck.code n es ⟨true,ar,xs⟩))/\Below w.heap.size w w':=by
 obtain⟨W,hW⟩:∃W,W=((w.alloc (.cells #[.int .i64 n,.slice ao es.length ca] 24)).alloc (.cells #[.bool true,.slice xo ar.length xc,.slice eo xs.length ec] 27)).alloc (.cells #[.int .i64 n,.slice ao es.length ca,.bool true,.slice xo ar.length xc,.slice eo xs.length ec,.slice none 0 0,.slice none 0 0] 68):=⟨_,rfl⟩;have hb0:Below w.heap.size w W:=by rw[hW];exact(((aae _ _).alloc (aad _) _).alloc (by simp) _).alloc (by simp;omega) _
 have hC:W.heap[w.heap.size+1]? =some (.cells #[.bool true,.slice xo ar.length xc,.slice eo xs.length ec] 27 (0,0)):=by
  rw[hW,aaF _ _ _ (by simp)];have:=heap_alloc_new (w.alloc (.cells #[.int .i64 n,.slice ao es.length ca] 24)) (.cells #[.bool true,.slice xo ar.length xc,.slice eo xs.length ec] 27);rwa[abk] at this
 have hX:W.heap[w.heap.size+1+1]? =some (.cells #[.int .i64 n,.slice ao es.length ca,.bool true,.slice xo ar.length xc,.slice eo xs.length ec,.slice none 0 0,.slice none 0 0] 68 (0,0)):=by
  rw[hW];have:=heap_alloc_new ((w.alloc (.cells #[.int .i64 n,.slice ao es.length ca] 24)).alloc (.cells #[.bool true,.slice xo ar.length xc,.slice eo xs.length ec] 27)) (.cells #[.int .i64 n,.slice ao es.length ca,.bool true,.slice xo ar.length xc,.slice eo xs.length ec,.slice none 0 0,.slice none 0 0] 68);rwa[abk,abk] at this
 have HE:Hid (∀V,Below w.heap.size w V->ah V ao es):=fun V h=>he.later h
 have wM:Hid (∀V,Below w.heap.size w V->Ce.iD V (.agg #[.bool true,.slice xo ar.length xc,.slice eo xs.length ec]) ⟨true,ar,xs⟩ xo eo xc ec):=fun V h=>hs.later h
 have ru:Hid (∀V,Below w.heap.size w V->bA V xo ar):=fun V h=>hx.later h
 have pG:Hid (∀V,Below w.heap.size w V->kO V):=fun V h=>yu ht h
 have DZ:=ζ hx.small;have HF:=ζ hf;have HW:=ζ hW;have HX:=ζ hX;have aH:=ζ hb0;obtain⟨c0,-⟩:=bw hC;have SG:=lt_of_block hC;clear he hs hf hx ht hW hb0 hC hX;go_enter func10,ntmps10
 go_upto_region 2 with fail
 rw[<-HW.out];go_wp2_with (go_at_call 29;refine(qR true W).mono ?_;rintro e w1 ⟨g,cd,rfl,hg,zM,hb1⟩;refine aaj ?_);refine ζ ?_;have j4:Hid (gC true n ao ca es ar xs xo eo xc ec w (w.heap.size+1+1) g 0 w1):=⟨aH.out.trans (hb1.mono aH.out.size),zM,⟨_,_,(hb1.block _ (lt_of_block HX.out)).trans HX.out,fun h=>by omega⟩,by have:=lt_of_block HX.out;omega,fun h=>by omega,fun h=>by omega,fun h=>by omega,fun h=>by omega⟩;clear zM hb1 c0 hg;go_wp2;go_loopw [15] (fun cv wr=>∃i:Nat,i<=4/\cv= .int .i64 i/\gC true n ao ca es ar xs xo eo xc ec w (w.heap.size+1+1) g i wr) (fun cv _=>4-(intOf cv).toNat)
 case atStart=>exact⟨0,by omega,rfl,j4.out⟩
 case round=>
  obtain⟨i,hi,rfl,Jy⟩:=hrel;obtain⟨w2,rfl⟩:∃w2,w2=wr:=⟨_,rfl⟩;have fE:=ζ Jy;have hsz2:=Jy.low.size;clear Jy;obtain rfl|rfl|rfl|rfl|rfl:i=0\/i=1\/i=2\/i=3\/i=4:=by omega
  .have d0:w2.cell? ⟨g,0,none⟩=some (.int .i64 1):=fE.out.j7 0 _ rfl
   have d1:w2.cell? ⟨g,1,none⟩=some (.func (.func 50) #[] #[]):=fE.out.j7 1 _ rfl;have hba:Below w2.heap.size w2 (w2.alloc (.cells #[.int .i64 1,.func (.func 50) #[] #[]] 73)):=(aae _ _).alloc (aad _) _;have b9:=ζ (fE.out.later hba);have iy:=ζ (heap_alloc_new w2 (.cells #[.int .i64 1,.func (.func 50) #[] #[]] 73));have rq:Hid (w.heap.size<=(w2.alloc (.cells #[.int .i64 1,.func (.func 50) #[] #[]] 73)).heap.size):=aaD hsz2 hba.size;have sO:Hid (w2.heap.size≠w.heap.size+1+1):=by
    show w2.heap.size≠w.heap.size+1+1;obtain⟨r,m,hb,-⟩:=fE.out.box;have:=lt_of_block hb;omega
   obtain⟨e0,e1,-⟩:=af iy.out;clear hba;obtain⟨r,m,ck,-⟩:=b9.out.box;have HV:=ζ (A9 ck (HE.out _ b9.out.low) hl);clear ck;cases hval:Si.valid n es with
   |false=>
    rw[hval] at HV;have dn:=ζ (Ck.rZ (c:=⟨true,ar,xs⟩) hval);clear hval;go_wp2_with (go_at_call 50;refine HV.out.mono ?_;rintro e w3 ⟨rfl,hb3⟩;obtain⟨f0,f1,-⟩:=af ((hb3.block _ (lt_of_block iy.out)).trans iy.out);have aJ:=ζ (b9.out.low.trans (hb3.mono rq.out));clear hb3 d0 d1 e0 e1;refine aaj ?_);refine ζ ?_;go_wp2;go_ret;exact⟨by rw[dn.out];rfl,aJ.out⟩
   |true=>
    rw[hval] at HV;have wL:=ζ hval;clear hval;go_wp2_with (go_at_call 50;refine HV.out.mono ?_;rintro e w3 ⟨rfl,hb3⟩;have l7:=ζ ((b9.out.later hb3).ZW wL.out);clear hb3 d0 d1 e0 e1;refine aaj ?_);refine ζ ?_;go_wp2;go_roundw
    case rel=>exact⟨1,by omega,rfl,l7.out⟩
    case measure=>simp[intOf]
  .have d0:w2.cell? ⟨g,2,none⟩=some (.int .i64 181):=fE.out.j7 2 _ rfl
   have d1:w2.cell? ⟨g,3,none⟩=some (.func (.func 51) #[] #[]):=fE.out.j7 3 _ rfl;have hba:Below w2.heap.size w2 (w2.alloc (.cells #[.int .i64 181,.func (.func 51) #[] #[]] 73)):=(aae _ _).alloc (aad _) _;have b9:=ζ (fE.out.later hba);have iy:=ζ (heap_alloc_new w2 (.cells #[.int .i64 181,.func (.func 51) #[] #[]] 73));have rq:Hid (w.heap.size<=(w2.alloc (.cells #[.int .i64 181,.func (.func 51) #[] #[]] 73)).heap.size):=aaD hsz2 hba.size;have sO:Hid (w2.heap.size≠w.heap.size+1+1):=by
    show w2.heap.size≠w.heap.size+1+1;obtain⟨r,m,hb,-⟩:=fE.out.box;have:=lt_of_block hb;omega
   obtain⟨e0,e1,-⟩:=af iy.out;clear hba;obtain⟨r,m,ck,-⟩:=b9.out.box;have HV:=ζ (IL (c:=⟨true,ar,xs⟩) ck (wM.out _ b9.out.low) HF.out (pG.out _ b9.out.low));have BC:=b9.out.sB (by omega);clear ck;cases hmay:Ck.may ⟨true,ar,xs⟩ with
   |false=>
    rw[hmay] at HV;have dn:=ζ (Ck.rY BC hmay);clear hmay;go_wp2_with (go_at_call 51;refine HV.out.mono ?_;rintro e w3 ⟨rfl,hb3⟩;obtain⟨f0,f1,-⟩:=af ((hb3.block _ (lt_of_block iy.out)).trans iy.out);have aJ:=ζ (b9.out.low.trans (hb3.mono rq.out));clear hb3 d0 d1 e0 e1;refine aaj ?_);refine ζ ?_;go_wp2;go_ret;exact⟨by rw[dn.out];rfl,aJ.out⟩
   |true=>
    rw[hmay] at HV;have wL:=ζ hmay;clear hmay;go_wp2_with (go_at_call 51;refine HV.out.mono ?_;rintro e w3 ⟨rfl,hb3⟩;have l7:=ζ ((b9.out.later hb3).ZV wL.out);clear hb3 d0 d1 e0 e1;refine aaj ?_);refine ζ ?_;go_wp2;go_roundw
    case rel=>exact⟨2,by omega,rfl,l7.out⟩
    case measure=>simp[intOf]
  .have d0:w2.cell? ⟨g,4,none⟩=some (.int .i64 182):=fE.out.j7 4 _ rfl
   have d1:w2.cell? ⟨g,5,none⟩=some (.func (.func 52) #[] #[]):=fE.out.j7 5 _ rfl;have hba:Below w2.heap.size w2 (w2.alloc (.cells #[.int .i64 182,.func (.func 52) #[] #[]] 73)):=(aae _ _).alloc (aad _) _;have b9:=ζ (fE.out.later hba);have iy:=ζ (heap_alloc_new w2 (.cells #[.int .i64 182,.func (.func 52) #[] #[]] 73));have rq:Hid (w.heap.size<=(w2.alloc (.cells #[.int .i64 182,.func (.func 52) #[] #[]] 73)).heap.size):=aaD hsz2 hba.size;have sO:Hid (w2.heap.size≠w.heap.size+1+1):=by
    show w2.heap.size≠w.heap.size+1+1;obtain⟨r,m,hb,-⟩:=fE.out.box;have:=lt_of_block hb;omega
   obtain⟨e0,e1,-⟩:=af iy.out;clear hba;obtain⟨r,m,ck,-⟩:=b9.out.box;have HV:=ζ (Ug (q2:= .bool true) ck (HE.out _ b9.out.low) hl (ru.out _ b9.out.low));have fD:=Ck.qT (c:=⟨true,ar,xs⟩) (b9.out.sB (by omega)) (b9.out.zH (by omega)) rfl;clear ck;unfold GR at HV;by_cases hck:(Ro.check n es (Ro.hls es 0 ar)).2=0
   .have hdt:decide ((Ro.check n es (Ro.hls es 0 ar)).2=0)=true:=decide_eq_true hck
    rw[hdt] at HV;have dI:=ζ hck;clear hck fD hdt;go_wp2_with (go_at_call 52;refine HV.out.mono ?_;rintro e w3 ⟨r3,rfl,wk,hw3,hr3⟩;obtain⟨rs,Rw⟩:=hr3 dI.out;have l7:=ζ (b9.out.ZU (by omega) wk hw3 dI.out Rw DZ.out);clear wk hw3 hr3 Rw d0 d1 e0 e1;refine aaj ?_);refine ζ ?_;go_wp2;go_roundw
    case rel=>exact⟨3,by omega,rfl,l7.out⟩
    case measure=>simp[intOf]
   .have hdt:decide ((Ro.check n es (Ro.hls es 0 ar)).2=0)=false:=decide_eq_false hck
    rw[hdt] at HV;have dn:Hid (Ck.code n es ⟨true,ar,xs⟩=182):=fD.trans (if_pos hck);clear hck fD hdt;go_wp2_with (go_at_call 52;refine HV.out.mono ?_;rintro e w3 ⟨r3,rfl,wk,hw3,-⟩;obtain⟨f0,f1,-⟩:=af ((hw3.block _ (lt_of_block iy.out) sO.out).trans iy.out);have aJ:=ζ (b9.out.low.trans (hw3.below rq.out fun b hb=>by rw[hb];omega));clear wk hw3 d0 d1 e0 e1;refine aaj ?_);refine ζ ?_;go_wp2;go_ret;exact⟨by rw[dn.out];rfl,aJ.out⟩
  .have d0:w2.cell? ⟨g,6,none⟩=some (.int .i64 183):=fE.out.j7 6 _ rfl
   have d1:w2.cell? ⟨g,7,none⟩=some (.func (.func 53) #[] #[]):=fE.out.j7 7 _ rfl;have hba:Below w2.heap.size w2 (w2.alloc (.cells #[.int .i64 183,.func (.func 53) #[] #[]] 73)):=(aae _ _).alloc (aad _) _;have b9:=ζ (fE.out.later hba);have iy:=ζ (heap_alloc_new w2 (.cells #[.int .i64 183,.func (.func 53) #[] #[]] 73));have rq:Hid (w.heap.size<=(w2.alloc (.cells #[.int .i64 183,.func (.func 53) #[] #[]] 73)).heap.size):=aaD hsz2 hba.size;have sO:Hid (w2.heap.size≠w.heap.size+1+1):=by
    show w2.heap.size≠w.heap.size+1+1;obtain⟨r,m,hb,-⟩:=fE.out.box;have:=lt_of_block hb;omega
   obtain⟨e0,e1,-⟩:=af iy.out;clear hba;obtain⟨r,m,ck,Ry⟩:=b9.out.box;obtain⟨yo,yc,rfl,hrw⟩:=(Ry (by omega)).1 rfl;have HV:=ζ (Pd ck (HE.out _ b9.out.low) hl hrw);have hck:=(b9.out.Uo (by omega)).1 rfl;have fD:=Ck.qT (c:=⟨true,ar,xs⟩) (b9.out.sB (by omega)) (b9.out.zH (by omega)) rfl;rw[if_neg (fun h=>h hck)] at fD;clear ck Ry hrw;by_cases j6:Fa.gz n.toNat es (Ro.hls es 0 ar)=0
   .have hdt:decide ((Ro.check n es (Ro.hls es 0 ar)).2=0/\Fa.gz n.toNat es (Ro.hls es 0 ar)=0)=true:=decide_eq_true ⟨hck,j6⟩
    rw[hdt] at HV;have dn:Hid (Ck.code n es ⟨true,ar,xs⟩=0):=fD.trans (if_pos j6);clear hck fD hdt j6;go_wp2_with (go_at_call 53;refine HV.out.mono ?_;rintro e w3 ⟨rfl,hb3⟩;have l7:=ζ ((b9.out.later hb3).ZR dn.out);clear hb3 d0 d1 e0 e1;refine aaj ?_);refine ζ ?_;go_wp2;go_roundw
    case rel=>exact⟨4,by omega,rfl,l7.out⟩
    case measure=>simp[intOf]
   .have hdt:decide ((Ro.check n es (Ro.hls es 0 ar)).2=0/\Fa.gz n.toNat es (Ro.hls es 0 ar)=0)=false:=decide_eq_false (fun h=>j6 h.2)
    rw[hdt] at HV;have dn:Hid (Ck.code n es ⟨true,ar,xs⟩=183):=fD.trans (if_neg j6);clear hck fD hdt j6;go_wp2_with (go_at_call 53;refine HV.out.mono ?_;rintro e w3 ⟨rfl,hb3⟩;obtain⟨f0,f1,-⟩:=af ((hb3.block _ (lt_of_block iy.out)).trans iy.out);have aJ:=ζ (b9.out.low.trans (hb3.mono rq.out));clear hb3 d0 d1 e0 e1;refine aaj ?_);refine ζ ?_;go_wp2;go_ret;exact⟨by rw[dn.out];rfl,aJ.out⟩
  .have dn:=ζ (fE.out.Xf (by omega))
   have x8:=ζ fE.out.low;go_wp2;go_ret;exact⟨by rw[dn.out];rfl,x8.out⟩
theorem JK (n:Int) (ao:Option Addr) (ca:Nat) (es:List (Int×Int)) (ar:List (List Int)) (xs:List (Int×Int)) (xo eo:Option Addr) (xc ec:Nat) (w:World) (he:ah w ao es) (hl:es.length<=4611686018427387904) (hs:Ce.iD w (.agg #[.bool false,.slice xo ar.length xc,.slice eo xs.length ec]) ⟨false,ar,xs⟩ xo eo xc ec) (hf:Ce.vg ⟨false,ar,xs⟩) (hx:bA w xo ar) (ht:kO w):
 Calls prog 10 #[.agg #[.int .i64 n,.slice ao es.length ca],.agg #[.bool false,.slice xo ar.length xc,.slice eo xs.length ec]] w fun e w'=>e= .returned (.int .i64 (Ck.code n es ⟨false,ar,xs⟩))/\Below w.heap.size w w':=by
 obtain⟨W,hW⟩:∃W,W=((w.alloc (.cells #[.int .i64 n,.slice ao es.length ca] 24)).alloc (.cells #[.bool false,.slice xo ar.length xc,.slice eo xs.length ec] 27)).alloc (.cells #[.int .i64 n,.slice ao es.length ca,.bool false,.slice xo ar.length xc,.slice eo xs.length ec,.slice none 0 0,.slice none 0 0] 68):=⟨_,rfl⟩;have hb0:Below w.heap.size w W:=by rw[hW];exact(((aae _ _).alloc (aad _) _).alloc (by simp) _).alloc (by simp;omega) _
 have hC:W.heap[w.heap.size+1]? =some (.cells #[.bool false,.slice xo ar.length xc,.slice eo xs.length ec] 27 (0,0)):=by
  rw[hW,aaF _ _ _ (by simp)];have:=heap_alloc_new (w.alloc (.cells #[.int .i64 n,.slice ao es.length ca] 24)) (.cells #[.bool false,.slice xo ar.length xc,.slice eo xs.length ec] 27);rwa[abk] at this
 have hX:W.heap[w.heap.size+1+1]? =some (.cells #[.int .i64 n,.slice ao es.length ca,.bool false,.slice xo ar.length xc,.slice eo xs.length ec,.slice none 0 0,.slice none 0 0] 68 (0,0)):=by
  rw[hW];have:=heap_alloc_new ((w.alloc (.cells #[.int .i64 n,.slice ao es.length ca] 24)).alloc (.cells #[.bool false,.slice xo ar.length xc,.slice eo xs.length ec] 27)) (.cells #[.int .i64 n,.slice ao es.length ca,.bool false,.slice xo ar.length xc,.slice eo xs.length ec,.slice none 0 0,.slice none 0 0] 68);rwa[abk,abk] at this
 have HE:Hid (∀V,Below w.heap.size w V->ah V ao es):=fun V h=>he.later h
 have wM:Hid (∀V,Below w.heap.size w V->Ce.iD V (.agg #[.bool false,.slice xo ar.length xc,.slice eo xs.length ec]) ⟨false,ar,xs⟩ xo eo xc ec):=fun V h=>hs.later h
 have ru:Hid (∀V,Below w.heap.size w V->bA V xo ar):=fun V h=>hx.later h
 have pG:Hid (∀V,Below w.heap.size w V->kO V):=fun V h=>yu ht h
 have DZ:=ζ hx.small;have HF:=ζ hf;have HW:=ζ hW;have HX:=ζ hX;have aH:=ζ hb0;obtain⟨c0,-⟩:=bw hC;have SG:=lt_of_block hC;clear he hs hf hx ht hW hb0 hC hX;go_enter func10,ntmps10
 go_upto_region 2 with fail
 rw[<-HW.out];go_wp2_with (go_at_call 29;refine(qR false W).mono ?_;rintro e w1 ⟨g,cd,rfl,hg,zM,hb1⟩;refine aaj ?_);refine ζ ?_;have j4:Hid (gC false n ao ca es ar xs xo eo xc ec w (w.heap.size+1+1) g 0 w1):=⟨aH.out.trans (hb1.mono aH.out.size),zM,⟨_,_,(hb1.block _ (lt_of_block HX.out)).trans HX.out,fun h=>by omega⟩,by have:=lt_of_block HX.out;omega,fun h=>by omega,fun h=>by omega,fun h=>by omega,fun h=>by omega⟩;clear zM hb1 c0 hg;go_wp2;go_loopw [15] (fun cv wr=>∃i:Nat,i<=4/\cv= .int .i64 i/\gC false n ao ca es ar xs xo eo xc ec w (w.heap.size+1+1) g i wr) (fun cv _=>4-(intOf cv).toNat)
 case atStart=>exact⟨0,by omega,rfl,j4.out⟩
 case round=>
  obtain⟨i,hi,rfl,Jy⟩:=hrel;obtain⟨w2,rfl⟩:∃w2,w2=wr:=⟨_,rfl⟩;have fE:=ζ Jy;have hsz2:=Jy.low.size;clear Jy;obtain rfl|rfl|rfl|rfl|rfl:i=0\/i=1\/i=2\/i=3\/i=4:=by omega
  .have d0:w2.cell? ⟨g,0,none⟩=some (.int .i64 1):=fE.out.j7 0 _ rfl
   have d1:w2.cell? ⟨g,1,none⟩=some (.func (.func 50) #[] #[]):=fE.out.j7 1 _ rfl;have hba:Below w2.heap.size w2 (w2.alloc (.cells #[.int .i64 1,.func (.func 50) #[] #[]] 73)):=(aae _ _).alloc (aad _) _;have b9:=ζ (fE.out.later hba);have iy:=ζ (heap_alloc_new w2 (.cells #[.int .i64 1,.func (.func 50) #[] #[]] 73));have rq:Hid (w.heap.size<=(w2.alloc (.cells #[.int .i64 1,.func (.func 50) #[] #[]] 73)).heap.size):=aaD hsz2 hba.size;have sO:Hid (w2.heap.size≠w.heap.size+1+1):=by
    show w2.heap.size≠w.heap.size+1+1;obtain⟨r,m,hb,-⟩:=fE.out.box;have:=lt_of_block hb;omega
   obtain⟨e0,e1,-⟩:=af iy.out;clear hba;obtain⟨r,m,ck,-⟩:=b9.out.box;have HV:=ζ (A9 ck (HE.out _ b9.out.low) hl);clear ck;cases hval:Si.valid n es with
   |false=>
    rw[hval] at HV;have dn:=ζ (Ck.rZ (c:=⟨false,ar,xs⟩) hval);clear hval;go_wp2_with (go_at_call 50;refine HV.out.mono ?_;rintro e w3 ⟨rfl,hb3⟩;obtain⟨f0,f1,-⟩:=af ((hb3.block _ (lt_of_block iy.out)).trans iy.out);have aJ:=ζ (b9.out.low.trans (hb3.mono rq.out));clear hb3 d0 d1 e0 e1;refine aaj ?_);refine ζ ?_;go_wp2;go_ret;exact⟨by rw[dn.out];rfl,aJ.out⟩
   |true=>
    rw[hval] at HV;have wL:=ζ hval;clear hval;go_wp2_with (go_at_call 50;refine HV.out.mono ?_;rintro e w3 ⟨rfl,hb3⟩;have l7:=ζ ((b9.out.later hb3).ZW wL.out);clear hb3 d0 d1 e0 e1;refine aaj ?_);refine ζ ?_;go_wp2;go_roundw
    case rel=>exact⟨1,by omega,rfl,l7.out⟩
    case measure=>simp[intOf]
  .have d0:w2.cell? ⟨g,2,none⟩=some (.int .i64 181):=fE.out.j7 2 _ rfl
   have d1:w2.cell? ⟨g,3,none⟩=some (.func (.func 51) #[] #[]):=fE.out.j7 3 _ rfl;have hba:Below w2.heap.size w2 (w2.alloc (.cells #[.int .i64 181,.func (.func 51) #[] #[]] 73)):=(aae _ _).alloc (aad _) _;have b9:=ζ (fE.out.later hba);have iy:=ζ (heap_alloc_new w2 (.cells #[.int .i64 181,.func (.func 51) #[] #[]] 73));have rq:Hid (w.heap.size<=(w2.alloc (.cells #[.int .i64 181,.func (.func 51) #[] #[]] 73)).heap.size):=aaD hsz2 hba.size;have sO:Hid (w2.heap.size≠w.heap.size+1+1):=by
    show w2.heap.size≠w.heap.size+1+1;obtain⟨r,m,hb,-⟩:=fE.out.box;have:=lt_of_block hb;omega
   obtain⟨e0,e1,-⟩:=af iy.out;clear hba;obtain⟨r,m,ck,-⟩:=b9.out.box;have HV:=ζ (IL (c:=⟨false,ar,xs⟩) ck (wM.out _ b9.out.low) HF.out (pG.out _ b9.out.low));have BC:=b9.out.sB (by omega);clear ck;cases hmay:Ck.may ⟨false,ar,xs⟩ with
   |false=>
    rw[hmay] at HV;have dn:=ζ (Ck.rY BC hmay);clear hmay;go_wp2_with (go_at_call 51;refine HV.out.mono ?_;rintro e w3 ⟨rfl,hb3⟩;obtain⟨f0,f1,-⟩:=af ((hb3.block _ (lt_of_block iy.out)).trans iy.out);have aJ:=ζ (b9.out.low.trans (hb3.mono rq.out));clear hb3 d0 d1 e0 e1;refine aaj ?_);refine ζ ?_;go_wp2;go_ret;exact⟨by rw[dn.out];rfl,aJ.out⟩
   |true=>
    rw[hmay] at HV;have wL:=ζ hmay;clear hmay;go_wp2_with (go_at_call 51;refine HV.out.mono ?_;rintro e w3 ⟨rfl,hb3⟩;have l7:=ζ ((b9.out.later hb3).ZV wL.out);clear hb3 d0 d1 e0 e1;refine aaj ?_);refine ζ ?_;go_wp2;go_roundw
    case rel=>exact⟨2,by omega,rfl,l7.out⟩
    case measure=>simp[intOf]
  .have d0:w2.cell? ⟨g,4,none⟩=some (.int .i64 184):=fE.out.j7 4 _ rfl
   have d1:w2.cell? ⟨g,5,none⟩=some (.func (.func 54) #[] #[]):=fE.out.j7 5 _ rfl;have hba:Below w2.heap.size w2 (w2.alloc (.cells #[.int .i64 184,.func (.func 54) #[] #[]] 73)):=(aae _ _).alloc (aad _) _;have b9:=ζ (fE.out.later hba);have iy:=ζ (heap_alloc_new w2 (.cells #[.int .i64 184,.func (.func 54) #[] #[]] 73));have rq:Hid (w.heap.size<=(w2.alloc (.cells #[.int .i64 184,.func (.func 54) #[] #[]] 73)).heap.size):=aaD hsz2 hba.size;have sO:Hid (w2.heap.size≠w.heap.size+1+1):=by
    show w2.heap.size≠w.heap.size+1+1;obtain⟨r,m,hb,-⟩:=fE.out.box;have:=lt_of_block hb;omega
   obtain⟨e0,e1,-⟩:=af iy.out;clear hba;obtain⟨r,m,ck,-⟩:=b9.out.box;have hval:=Si.aK.1 (b9.out.sB (by omega));have HV:=ζ (Q0 (q2:= .bool false) ck (HE.out _ b9.out.low) hval.few (wM.out _ b9.out.low).es HF.out.es);have fD:=Ck.wC (c:=⟨false,ar,xs⟩) (b9.out.sB (by omega)) (b9.out.zH (by omega)) rfl;have hok:Ce.OT xs:=by
    have:=(Ck.F6 (b9.out.zH (by omega))).1;unfold Ce.good at this;rw[if_neg (fun h=>by cases h)] at this;exact this.2.1
   have hiff:=Ck.xu hval hok;clear ck hok;unfold CO at HV;by_cases hck:(Ck.bz xs es 0).length=xs.length
   .have hdt:decide ((Ck.bz xs es 0).length=xs.length)=true:=decide_eq_true hck
    rw[hdt] at HV;have dI:=ζ (hiff.1 hck);clear hck fD hdt hiff hval;go_wp2_with (go_at_call 54;refine HV.out.mono ?_;rintro e w3 ⟨r3,rfl,wk,hw3,hr3⟩;have l7:=ζ (b9.out.ZT (by omega) wk hw3 dI.out hr3);clear wk hw3 hr3 d0 d1 e0 e1;refine aaj ?_);refine ζ ?_;go_wp2;go_roundw
    case rel=>exact⟨3,by omega,rfl,l7.out⟩
    case measure=>simp[intOf]
   .have hdt:decide ((Ck.bz xs es 0).length=xs.length)=false:=decide_eq_false hck
    rw[hdt] at HV;have dn:Hid (Ck.code n es ⟨false,ar,xs⟩=184):=fD.trans (if_pos (fun h=>hck (hiff.2 h)));clear hck fD hdt hiff hval;go_wp2_with (go_at_call 54;refine HV.out.mono ?_;rintro e w3 ⟨r3,rfl,wk,hw3,-⟩;obtain⟨f0,f1,-⟩:=af ((hw3.block _ (lt_of_block iy.out) sO.out).trans iy.out);have aJ:=ζ (b9.out.low.trans (hw3.below rq.out fun b hb=>by rw[hb];omega));clear wk hw3 d0 d1 e0 e1;refine aaj ?_);refine ζ ?_;go_wp2;go_ret;exact⟨by rw[dn.out];rfl,aJ.out⟩
  .have d0:w2.cell? ⟨g,6,none⟩=some (.int .i64 185):=fE.out.j7 6 _ rfl
   have d1:w2.cell? ⟨g,7,none⟩=some (.func (.func 55) #[] #[]):=fE.out.j7 7 _ rfl;have hba:Below w2.heap.size w2 (w2.alloc (.cells #[.int .i64 185,.func (.func 55) #[] #[]] 73)):=(aae _ _).alloc (aad _) _;have b9:=ζ (fE.out.later hba);have iy:=ζ (heap_alloc_new w2 (.cells #[.int .i64 185,.func (.func 55) #[] #[]] 73));have rq:Hid (w.heap.size<=(w2.alloc (.cells #[.int .i64 185,.func (.func 55) #[] #[]] 73)).heap.size):=aaD hsz2 hba.size;have sO:Hid (w2.heap.size≠w.heap.size+1+1):=by
    show w2.heap.size≠w.heap.size+1+1;obtain⟨r,m,hb,-⟩:=fE.out.box;have:=lt_of_block hb;omega
   obtain⟨e0,e1,-⟩:=af iy.out;clear hba;obtain⟨r,m,ck,Ry⟩:=b9.out.box;obtain⟨yo,yc,rfl,hrw⟩:=(Ry (by omega)).2 rfl;have hval:=Si.aK.1 (b9.out.sB (by omega));have hin:=(b9.out.Uo (by omega)).2 rfl;have hok:Ce.OT xs:=by
    have:=(Ck.F6 (b9.out.zH (by omega))).1;unfold Ce.good at this;rw[if_neg (fun h=>by cases h)] at this;exact this.2.1
   have ko:=(Ck.xu hval hok).2 hin;have hsub:Ed.sub n es (Ck.keep xs es)=(n,xs,0):=by
    unfold Ed.sub;rw[if_neg (by rw[b9.out.sB (by omega)];decide),if_neg (fun h=>h Ck.Rc),Ck.Oy ko]
   have uj:Si.Val n xs:=Ck.val_sub hval (Ck.nI es xs 0 ko);have hk0:(Ku.kr n xs).2.2.2.2=0:=Ck.Q9 uj;have hkl:(Ck.keep xs es).length<=4611686018427387904:=by rw[Ck.xE];have:=(Ck.xw es xs 0).2;omega
   have HV:=ζ (Pc ck (HE.out _ b9.out.low) hval.few hrw hkl hsub (by have:=uj.few;omega) hk0);have fD:=Ck.wC (c:=⟨false,ar,xs⟩) (b9.out.sB (by omega)) (b9.out.zH (by omega)) rfl;rw[if_neg (fun h=>h hin)] at fD;clear ck Ry hrw hok ko hsub hk0 hkl hin hval uj;cases j6:(Ku.kr n xs).2.2.2.1 with
   |true=>
    rw[j6] at HV;have dn:Hid (Ck.code n es ⟨false,ar,xs⟩=0):=fD.trans (if_pos j6);clear fD j6;go_wp2_with (go_at_call 55;refine HV.out.mono ?_;rintro e w3 ⟨rfl,hb3⟩;have l7:=ζ ((b9.out.later hb3).ZR dn.out);clear hb3 d0 d1 e0 e1;refine aaj ?_);refine ζ ?_;go_wp2;go_roundw
    case rel=>exact⟨4,by omega,rfl,l7.out⟩
    case measure=>simp[intOf]
   |false=>
    rw[j6] at HV;have dn:Hid (Ck.code n es ⟨false,ar,xs⟩=185):=fD.trans (if_neg (by rw[j6];decide));clear fD j6;go_wp2_with (go_at_call 55;refine HV.out.mono ?_;rintro e w3 ⟨rfl,hb3⟩;obtain⟨f0,f1,-⟩:=af ((hb3.block _ (lt_of_block iy.out)).trans iy.out);have aJ:=ζ (b9.out.low.trans (hb3.mono rq.out));clear hb3 d0 d1 e0 e1;refine aaj ?_);refine ζ ?_;go_wp2;go_ret;exact⟨by rw[dn.out];rfl,aJ.out⟩
  .have dn:=ζ (fE.out.Xf (by omega))
   have x8:=ζ fE.out.low;go_wp2;go_ret;exact⟨by rw[dn.out];rfl,x8.out⟩
theorem oT (n:Int) (ao:Option Addr) (ca:Nat) (es:List (Int×Int)) (c:Ce.Cert) (v:Value) (xo eo:Option Addr) (xc ec:Nat) (w:World) (he:ah w ao es) (hl:es.length<=4611686018427387904) (hs:Ce.iD w v c xo eo xc ec) (hf:Ce.vg c) (hx:bA w xo c.ar) (ht:kO w):
 Calls prog 10 #[.agg #[.int .i64 n,.slice ao es.length ca],v] w fun e w'=>e= .returned (.int .i64 (Ck.code n es c))/\Below w.heap.size w w':=by
 have hv:=hs.val;subst hv;obtain⟨pl,ar,xs⟩:=c;cases pl
 .exact JK n ao ca es ar xs xo eo xc ec w he hl hs hf hx ht
 .exact Gz n ao ca es ar xs xo eo xc ec w he hl hs hf hx ht
end
end Go.Proofs.YtdbjpbjocmcpkaaGreatDoor
