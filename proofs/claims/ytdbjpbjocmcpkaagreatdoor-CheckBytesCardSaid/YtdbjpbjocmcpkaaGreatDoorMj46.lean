import Derived.Test.YtdbjpbjocmcpkaaGreatDoorMj45
import Derived.Laws.EntriesVeiled
set_option maxHeartbeats 4000000
set_option maxRecDepth 100000
namespace Go.Proofs.YtdbjpbjocmcpkaaGreatDoor
section
open Go.Proofs.Tryz
open Go.RowKit Go.Sort
theorem Ck.DF (es:List (Int×Int)):∀(k:Nat) (ls:List (List Int)) (l':List Int),l'∈Ro.hls es k ls->∃l∈ls,l'.length=l.length
 |_,[],_,h=>by simp[Ro.hls] at h
 |k,l::ls,l',h=>by
  unfold Ro.hls at h;rcases aa4.1 h with e|e
  .exact⟨l,by simp,by rw[e,aa3]⟩
  .obtain⟨m,hm,e2⟩:=Ck.DF es (k+1) ls l' e
   exact⟨m,by simp[hm],e2⟩
theorem bH.small {w:World} {xo:Option Addr} {ls:List (List Int)} (h:bH w xo ls):∀l∈ls,l.length<=17592186043904:=fun l hl=>by
 obtain⟨v,hv⟩:=abg hl;obtain⟨b,o,A,C,_,_,_,h1,_⟩:=h v l hv;exact h1
structure iK (pl:Bool) (n:Int) (ao:Option Addr) (ca:Nat) (es:List (Int×Int)) (ar:List (List Int)) (xs:List (Int×Int)) (xo eo:Option Addr) (xc ec:Nat) (w:World) (K g i:Nat) (wr:World):Prop where
 low:Below w.heap.size w wr
 lQ:∀(j:Nat) (u:Value),(Jt pl)[j]? =some u->wr.cell? ⟨g,j,none⟩=some u
 box:∃r m,wr.heap[K]? =some (.cells #[.int .i64 n,.slice ao es.length ca,.bool pl,.slice xo ar.length xc,.slice eo xs.length ec,r,m] 68 (0,0))/\
  (3<=i->(pl=true->∃yo yc,r= .slice yo (Ro.hls es 0 ar).length yc/\bH wr yo (Ro.hls es 0 ar))/\(pl=false->∃yo yc,m= .slice yo (Ck.keep xs es).length yc/\aV wr yo (Ck.keep xs es)))
 far:g≠K
 uH:1<=i->Si.valid n es=true
 BM:2<=i->Ck.may ⟨pl,ar,xs⟩=true
 XO:3<=i->(pl=true->(Ro.check n es (Ro.hls es 0 ar)).2=0)/\(pl=false->∀x∈xs,x∈es)
 ok4:4<=i->Ck.code n es ⟨pl,ar,xs⟩=0
section
variable {pl:Bool} {n:Int} {ao:Option Addr} {ca:Nat} {es:List (Int×Int)} {ar:List (List Int)} {xs:List (Int×Int)} {xo eo:Option Addr} {xc ec:Nat} {w:World} {K g i:Nat} {wr w':World}
theorem iK.later (h:iK pl n ao ca es ar xs xo eo xc ec w K g i wr) (hb:Below wr.heap.size wr w'):iK pl n ao ca es ar xs xo eo xc ec w K g i w':=by
 refine⟨h.low.trans (hb.mono h.low.size),fun j u hj=>(hb.cell (p:=⟨g,j,none⟩) (block_lt_of_cell (h.lQ j u hj))).trans (h.lQ j u hj),?_,h.far,h.uH,h.BM,h.XO,h.ok4⟩;obtain⟨r,m,h1,h2⟩:=h.box;refine⟨r,m,(hb.block _ (lt_of_block h1)).trans h1,fun h3=>⟨fun h4=> ?_,fun h4=> ?_⟩⟩
 .obtain⟨yo,yc,e,hr⟩:=(h2 h3).1 h4
  exact⟨yo,yc,e,hr.later hb⟩
 .obtain⟨yo,yc,e,hr⟩:=(h2 h3).2 h4
  exact⟨yo,yc,e,hr.later hb⟩
theorem iK.up0 (h:iK pl n ao ca es ar xs xo eo xc ec w K g 0 wr) (h1:Si.valid n es=true):iK pl n ao ca es ar xs xo eo xc ec w K g 1 wr:=by
 obtain⟨r,m,hb,-⟩:=h.box;exact⟨h.low,h.lQ,⟨r,m,hb,fun h=>by omega⟩,h.far,fun _=>h1,fun h=>by omega,fun h=>by omega,fun h=>by omega⟩
theorem iK.up1 (h:iK pl n ao ca es ar xs xo eo xc ec w K g 1 wr) (h1:Ck.may ⟨pl,ar,xs⟩=true):iK pl n ao ca es ar xs xo eo xc ec w K g 2 wr:=by
 obtain⟨r,m,hb,-⟩:=h.box;exact⟨h.low,h.lQ,⟨r,m,hb,fun h=>by omega⟩,h.far,fun _=>h.uH (by omega),fun _=>h1,fun h=>by omega,fun h=>by omega⟩
theorem iK.up3 (h:iK pl n ao ca es ar xs xo eo xc ec w K g 3 wr) (h1:Ck.code n es ⟨pl,ar,xs⟩=0):iK pl n ao ca es ar xs xo eo xc ec w K g 4 wr:=by
 obtain⟨r,m,hb,h2⟩:=h.box;exact⟨h.low,h.lQ,⟨r,m,hb,fun _=>h2 (by omega)⟩,h.far,fun _=>h.uH (by omega),fun _=>h.BM (by omega),fun _=>h.XO (by omega),fun _=>h1⟩
theorem iK.adL (h:iK true n ao ca es ar xs xo eo xc ec w K g 2 wr) (hK:w.heap.size<=K) {r m:Value} (hb:w'.heap[K]? =some (.cells #[.int .i64 n,.slice ao es.length ca,.bool true,.slice xo ar.length xc,.slice eo xs.length ec,r,m] 68 (0,0))) (hw:av (fun b=>b=K) wr w')
 (hc:(Ro.check n es (Ro.hls es 0 ar)).2=0) {B:Nat} {rs:List Value} (hr:ay w' B r rs (Ro.hls es 0 ar)) (hs:∀l∈ar,l.length<=17592186043904):iK true n ao ca es ar xs xo eo xc ec w K g 3 w':=by
 obtain⟨yo,yc,e,hr2,-⟩:=hr.rws fun l hl=>by
  obtain⟨l2,h2,e2⟩:=Ck.DF es 0 ar l hl;rw[e2];exact hs l2 h2
 refine⟨h.low.trans (hw.below h.low.size fun b hb=>by rw[hb];exact hK),fun j u hj=> ?_,⟨r,m,hb,fun _=>⟨fun _=>⟨yo,yc,e,hr2⟩,fun h=>by cases h⟩⟩,h.far,fun _=>h.uH (by omega),fun _=>h.BM (by omega),fun _=>⟨fun _=>hc,fun h=>by cases h⟩,fun h=>by omega⟩;rw[abF (w:=wr) (hw.block g (block_lt_of_cell (h.lQ j u hj)) h.far)];exact h.lQ j u hj
theorem iK.adK (h:iK false n ao ca es ar xs xo eo xc ec w K g 2 wr) (hK:w.heap.size<=K) {r m:Value} (hb:w'.heap[K]? =some (.cells #[.int .i64 n,.slice ao es.length ca,.bool false,.slice xo ar.length xc,.slice eo xs.length ec,r,m] 68 (0,0))) (hw:av (fun b=>b=K) wr w')
 (hc:∀x∈xs,x∈es) {B:Nat} (hr:ak w' B m (Ck.keep xs es)):iK false n ao ca es ar xs xo eo xc ec w K g 3 w':=by
 obtain⟨yo,yc,e,hr2,-⟩:=hr.form;refine⟨h.low.trans (hw.below h.low.size fun b hb=>by rw[hb];exact hK),fun j u hj=> ?_,⟨r,m,hb,fun _=>⟨(fun h=>by cases h),fun _=>⟨yo,yc,e,hr2⟩⟩⟩,h.far,fun _=>h.uH (by omega),fun _=>h.BM (by omega),fun _=>⟨(fun h=>by cases h),fun _=>hc⟩,fun h=>by omega⟩;rw[abF (w:=wr) (hw.block g (block_lt_of_cell (h.lQ j u hj)) h.far)];exact h.lQ j u hj
end
namespace Ck
theorem ux {n:Int} {es:List (Int×Int)} {c:Ce.Cert} (h:Si.valid n es=false):code n es c=1:=by unfold code;rw[if_pos h]
theorem uw {n:Int} {es:List (Int×Int)} {c:Ce.Cert} (h:Si.valid n es=true) (h1:may c=false):code n es c=181:=by unfold code;rw[if_neg (by rw[h];decide),if_pos h1]
theorem sU {n:Int} {es:List (Int×Int)} {c:Ce.Cert} (h:Si.valid n es=true) (h1:may c=true) (h2:c.pl=true):code n es c=if (Ro.check n es (Ro.hls es 0 c.ar)).2≠0 then 182 else if Fa.gz n.toNat es (Ro.hls es 0 c.ar)=0 then 0 else 183:=by
 unfold code;rw[if_neg (by rw[h];decide),if_neg (by rw[h1];decide),if_pos h2]
open Classical in
theorem yB {n:Int} {es:List (Int×Int)} {c:Ce.Cert} (h:Si.valid n es=true) (h1:may c=true) (h2:c.pl=false):code n es c=if ¬ ∀x∈c.es,x∈es then 184 else if (Ku.kr n c.es).2.2.2.1=true then 0 else 185:=by
 unfold code;rw[if_neg (by rw[h];decide),if_neg (by rw[h1];decide),if_neg (by rw[h2];decide)]
theorem Uu {n:Int} {xs:List (Int×Int)} (h:Si.Val n xs):(Ku.kr n xs).2.2.2.2=0:=by
 unfold Ku.kr;rw[dif_pos h];cases Ku.jY (Ku.rows xs h xs.length) xs n.toNat<;>rfl
end Ck
theorem Aq {w w':World} (ht:lC w) (hb:Below w.heap.size w w'):lC w':=eY ht w' hb
theorem Jq (n:Int) (ao:Option Addr) (ca:Nat) (es:List (Int×Int)) (ar:List (List Int)) (xs:List (Int×Int)) (xo eo:Option Addr) (xc ec:Nat) (w:World) (he:ah w ao es) (hl:es.length<=4611686018427387904) (hs:Ce.jZ w (.agg #[.bool true,.slice xo ar.length xc,.slice eo xs.length ec]) ⟨true,ar,xs⟩ xo eo xc ec) (hf:Ce.wT ⟨true,ar,xs⟩) (hx:bH w xo ar) (ht:lC w):
 Calls prog 10 #[.agg #[.int .i64 n,.slice ao es.length ca],.agg #[.bool true,.slice xo ar.length xc,.slice eo xs.length ec]] w fun e w'=>e= .returned (.int .i64 (Ck.code n es ⟨true,ar,xs⟩))/\Below w.heap.size w w':=by
 obtain⟨W,hW⟩:∃W,W=((w.alloc (.cells #[.int .i64 n,.slice ao es.length ca] 24)).alloc (.cells #[.bool true,.slice xo ar.length xc,.slice eo xs.length ec] 27)).alloc (.cells #[.int .i64 n,.slice ao es.length ca,.bool true,.slice xo ar.length xc,.slice eo xs.length ec,.slice none 0 0,.slice none 0 0] 68):=⟨_,rfl⟩;have hb0:Below w.heap.size w W:=by rw[hW];exact(((aaG _ _).alloc (aaF _) _).alloc (by simp) _).alloc (by simp;omega) _
 have hC:W.heap[w.heap.size+1]? =some (.cells #[.bool true,.slice xo ar.length xc,.slice eo xs.length ec] 27 (0,0)):=by
  rw[hW,aa0 _ _ _ (by simp)];have:=heap_alloc_new (w.alloc (.cells #[.int .i64 n,.slice ao es.length ca] 24)) (.cells #[.bool true,.slice xo ar.length xc,.slice eo xs.length ec] 27);rwa[aa7] at this
 have hX:W.heap[w.heap.size+1+1]? =some (.cells #[.int .i64 n,.slice ao es.length ca,.bool true,.slice xo ar.length xc,.slice eo xs.length ec,.slice none 0 0,.slice none 0 0] 68 (0,0)):=by
  rw[hW];have:=heap_alloc_new ((w.alloc (.cells #[.int .i64 n,.slice ao es.length ca] 24)).alloc (.cells #[.bool true,.slice xo ar.length xc,.slice eo xs.length ec] 27)) (.cells #[.int .i64 n,.slice ao es.length ca,.bool true,.slice xo ar.length xc,.slice eo xs.length ec,.slice none 0 0,.slice none 0 0] 68);rwa[aa7,aa7] at this
 have HE:Hid (∀V,Below w.heap.size w V->ah V ao es):=fun V h=>he.later h
 have yP:Hid (∀V,Below w.heap.size w V->Ce.jZ V (.agg #[.bool true,.slice xo ar.length xc,.slice eo xs.length ec]) ⟨true,ar,xs⟩ xo eo xc ec):=fun V h=>hs.later h
 have kP:Hid (∀V,Below w.heap.size w V->bH V xo ar):=fun V h=>hx.later h
 have oW:Hid (∀V,Below w.heap.size w V->lC V):=fun V h=>Aq ht h
 have rP:=ζ hx.small;have HF:=ζ hf;have HW:=ζ hW;have HX:=ζ hX;have aI:=ζ hb0;obtain⟨c0,-⟩:=bF hC;have VN:=lt_of_block hC;clear he hs hf hx ht hW hb0 hC hX;go_enter func10,ntmps10
 go_upto_region 2 with fail
 rw[<-HW.out];go_wp2_with (go_at_call 29;refine(sR true W).mono ?_;rintro e w1 ⟨g,cd,rfl,hg,BP,hb1⟩;refine aaI ?_);refine ζ ?_;have jR:Hid (iK true n ao ca es ar xs xo eo xc ec w (w.heap.size+1+1) g 0 w1):=⟨aI.out.trans (hb1.mono aI.out.size),BP,⟨_,_,(hb1.block _ (lt_of_block HX.out)).trans HX.out,fun h=>by omega⟩,by have:=lt_of_block HX.out;omega,fun h=>by omega,fun h=>by omega,fun h=>by omega,fun h=>by omega⟩;clear BP hb1 c0 hg;go_wp2;go_loopw [15] (fun cv wr=>∃i:Nat,i<=4/\cv= .int .i64 i/\iK true n ao ca es ar xs xo eo xc ec w (w.heap.size+1+1) g i wr) (fun cv _=>4-(intOf cv).toNat)
 case atStart=>exact⟨0,by omega,rfl,jR.out⟩
 case round=>
  obtain⟨i,hi,rfl,LP⟩:=hrel;obtain⟨w2,rfl⟩:∃w2,w2=wr:=⟨_,rfl⟩;have gF:=ζ LP;have hsz2:=LP.low.size;clear LP;obtain rfl|rfl|rfl|rfl|rfl:i=0\/i=1\/i=2\/i=3\/i=4:=by omega
  .have d0:w2.cell? ⟨g,0,none⟩=some (.int .i64 1):=gF.out.lQ 0 _ rfl
   have d1:w2.cell? ⟨g,1,none⟩=some (.func (.func 50) #[] #[]):=gF.out.lQ 1 _ rfl;have hba:Below w2.heap.size w2 (w2.alloc (.cells #[.int .i64 1,.func (.func 50) #[] #[]] 73)):=(aaG _ _).alloc (aaF _) _;have cm:=ζ (gF.out.later hba);have jo:=ζ (heap_alloc_new w2 (.cells #[.int .i64 1,.func (.func 50) #[] #[]] 73));have tF:Hid (w.heap.size<=(w2.alloc (.cells #[.int .i64 1,.func (.func 50) #[] #[]] 73)).heap.size):=aa1 hsz2 hba.size;have uS:Hid (w2.heap.size≠w.heap.size+1+1):=by
    show w2.heap.size≠w.heap.size+1+1;obtain⟨r,m,hb,-⟩:=gF.out.box;have:=lt_of_block hb;omega
   obtain⟨e0,e1,-⟩:=af jo.out;clear hba;obtain⟨r,m,b7,-⟩:=cm.out.box;have HV:=ζ (C5 b7 (HE.out _ cm.out.low) hl);clear b7;cases hval:Si.valid n es with
   |false=>
    rw[hval] at HV;have cH:=ζ (Ck.ux (c:=⟨true,ar,xs⟩) hval);clear hval;go_wp2_with (go_at_call 50;refine HV.out.mono ?_;rintro e w3 ⟨rfl,hb3⟩;obtain⟨f0,f1,-⟩:=af ((hb3.block _ (lt_of_block jo.out)).trans jo.out);have aK:=ζ (cm.out.low.trans (hb3.mono tF.out));clear hb3 d0 d1 e0 e1;refine aaI ?_);refine ζ ?_;go_wp2;go_ret;exact⟨by rw[cH.out];rfl,aK.out⟩
   |true=>
    rw[hval] at HV;have yO:=ζ hval;clear hval;go_wp2_with (go_at_call 50;refine HV.out.mono ?_;rintro e w3 ⟨rfl,hb3⟩;have iC:=ζ ((cm.out.later hb3).up0 yO.out);clear hb3 d0 d1 e0 e1;refine aaI ?_);refine ζ ?_;go_wp2;go_roundw
    case rel=>exact⟨1,by omega,rfl,iC.out⟩
    case measure=>simp[intOf]
  .have d0:w2.cell? ⟨g,2,none⟩=some (.int .i64 181):=gF.out.lQ 2 _ rfl
   have d1:w2.cell? ⟨g,3,none⟩=some (.func (.func 51) #[] #[]):=gF.out.lQ 3 _ rfl;have hba:Below w2.heap.size w2 (w2.alloc (.cells #[.int .i64 181,.func (.func 51) #[] #[]] 73)):=(aaG _ _).alloc (aaF _) _;have cm:=ζ (gF.out.later hba);have jo:=ζ (heap_alloc_new w2 (.cells #[.int .i64 181,.func (.func 51) #[] #[]] 73));have tF:Hid (w.heap.size<=(w2.alloc (.cells #[.int .i64 181,.func (.func 51) #[] #[]] 73)).heap.size):=aa1 hsz2 hba.size;have uS:Hid (w2.heap.size≠w.heap.size+1+1):=by
    show w2.heap.size≠w.heap.size+1+1;obtain⟨r,m,hb,-⟩:=gF.out.box;have:=lt_of_block hb;omega
   obtain⟨e0,e1,-⟩:=af jo.out;clear hba;obtain⟨r,m,b7,-⟩:=cm.out.box;have HV:=ζ (KX (c:=⟨true,ar,xs⟩) b7 (yP.out _ cm.out.low) HF.out (oW.out _ cm.out.low));have Dv:=cm.out.uH (by omega);clear b7;cases hmay:Ck.may ⟨true,ar,xs⟩ with
   |false=>
    rw[hmay] at HV;have cH:=ζ (Ck.uw Dv hmay);clear hmay;go_wp2_with (go_at_call 51;refine HV.out.mono ?_;rintro e w3 ⟨rfl,hb3⟩;obtain⟨f0,f1,-⟩:=af ((hb3.block _ (lt_of_block jo.out)).trans jo.out);have aK:=ζ (cm.out.low.trans (hb3.mono tF.out));clear hb3 d0 d1 e0 e1;refine aaI ?_);refine ζ ?_;go_wp2;go_ret;exact⟨by rw[cH.out];rfl,aK.out⟩
   |true=>
    rw[hmay] at HV;have yO:=ζ hmay;clear hmay;go_wp2_with (go_at_call 51;refine HV.out.mono ?_;rintro e w3 ⟨rfl,hb3⟩;have iC:=ζ ((cm.out.later hb3).up1 yO.out);clear hb3 d0 d1 e0 e1;refine aaI ?_);refine ζ ?_;go_wp2;go_roundw
    case rel=>exact⟨2,by omega,rfl,iC.out⟩
    case measure=>simp[intOf]
  .have d0:w2.cell? ⟨g,4,none⟩=some (.int .i64 182):=gF.out.lQ 4 _ rfl
   have d1:w2.cell? ⟨g,5,none⟩=some (.func (.func 52) #[] #[]):=gF.out.lQ 5 _ rfl;have hba:Below w2.heap.size w2 (w2.alloc (.cells #[.int .i64 182,.func (.func 52) #[] #[]] 73)):=(aaG _ _).alloc (aaF _) _;have cm:=ζ (gF.out.later hba);have jo:=ζ (heap_alloc_new w2 (.cells #[.int .i64 182,.func (.func 52) #[] #[]] 73));have tF:Hid (w.heap.size<=(w2.alloc (.cells #[.int .i64 182,.func (.func 52) #[] #[]] 73)).heap.size):=aa1 hsz2 hba.size;have uS:Hid (w2.heap.size≠w.heap.size+1+1):=by
    show w2.heap.size≠w.heap.size+1+1;obtain⟨r,m,hb,-⟩:=gF.out.box;have:=lt_of_block hb;omega
   obtain⟨e0,e1,-⟩:=af jo.out;clear hba;obtain⟨r,m,b7,-⟩:=cm.out.box;have HV:=ζ (XF (q2:= .bool true) b7 (HE.out _ cm.out.low) hl (kP.out _ cm.out.low));have dW:=Ck.sU (c:=⟨true,ar,xs⟩) (cm.out.uH (by omega)) (cm.out.BM (by omega)) rfl;clear b7;unfold JC at HV;by_cases hck:(Ro.check n es (Ro.hls es 0 ar)).2=0
   .have hdt:decide ((Ro.check n es (Ro.hls es 0 ar)).2=0)=true:=decide_eq_true hck
    rw[hdt] at HV;have ew:=ζ hck;clear hck dW hdt;go_wp2_with (go_at_call 52;refine HV.out.mono ?_;rintro e w3 ⟨r3,rfl,yj,hw3,hr3⟩;obtain⟨rs,UR⟩:=hr3 ew.out;have iC:=ζ (cm.out.adL (by omega) yj hw3 ew.out UR rP.out);clear yj hw3 hr3 UR d0 d1 e0 e1;refine aaI ?_);refine ζ ?_;go_wp2;go_roundw
    case rel=>exact⟨3,by omega,rfl,iC.out⟩
    case measure=>simp[intOf]
   .have hdt:decide ((Ro.check n es (Ro.hls es 0 ar)).2=0)=false:=decide_eq_false hck
    rw[hdt] at HV;have cH:Hid (Ck.code n es ⟨true,ar,xs⟩=182):=dW.trans (if_pos hck);clear hck dW hdt;go_wp2_with (go_at_call 52;refine HV.out.mono ?_;rintro e w3 ⟨r3,rfl,yj,hw3,-⟩;obtain⟨f0,f1,-⟩:=af ((hw3.block _ (lt_of_block jo.out) uS.out).trans jo.out);have aK:=ζ (cm.out.low.trans (hw3.below tF.out fun b hb=>by rw[hb];omega));clear yj hw3 d0 d1 e0 e1;refine aaI ?_);refine ζ ?_;go_wp2;go_ret;exact⟨by rw[cH.out];rfl,aK.out⟩
  .have d0:w2.cell? ⟨g,6,none⟩=some (.int .i64 183):=gF.out.lQ 6 _ rfl
   have d1:w2.cell? ⟨g,7,none⟩=some (.func (.func 53) #[] #[]):=gF.out.lQ 7 _ rfl;have hba:Below w2.heap.size w2 (w2.alloc (.cells #[.int .i64 183,.func (.func 53) #[] #[]] 73)):=(aaG _ _).alloc (aaF _) _;have cm:=ζ (gF.out.later hba);have jo:=ζ (heap_alloc_new w2 (.cells #[.int .i64 183,.func (.func 53) #[] #[]] 73));have tF:Hid (w.heap.size<=(w2.alloc (.cells #[.int .i64 183,.func (.func 53) #[] #[]] 73)).heap.size):=aa1 hsz2 hba.size;have uS:Hid (w2.heap.size≠w.heap.size+1+1):=by
    show w2.heap.size≠w.heap.size+1+1;obtain⟨r,m,hb,-⟩:=gF.out.box;have:=lt_of_block hb;omega
   obtain⟨e0,e1,-⟩:=af jo.out;clear hba;obtain⟨r,m,b7,UW⟩:=cm.out.box;obtain⟨yo,yc,rfl,hrw⟩:=(UW (by omega)).1 rfl;have HV:=ζ (Sk b7 (HE.out _ cm.out.low) hl hrw);have hck:=(cm.out.XO (by omega)).1 rfl;have dW:=Ck.sU (c:=⟨true,ar,xs⟩) (cm.out.uH (by omega)) (cm.out.BM (by omega)) rfl;rw[if_neg (fun h=>h hck)] at dW;clear b7 UW hrw;by_cases lM:Fa.gz n.toNat es (Ro.hls es 0 ar)=0
   .have hdt:decide ((Ro.check n es (Ro.hls es 0 ar)).2=0/\Fa.gz n.toNat es (Ro.hls es 0 ar)=0)=true:=decide_eq_true ⟨hck,lM⟩
    rw[hdt] at HV;have cH:Hid (Ck.code n es ⟨true,ar,xs⟩=0):=dW.trans (if_pos lM);clear hck dW hdt lM;go_wp2_with (go_at_call 53;refine HV.out.mono ?_;rintro e w3 ⟨rfl,hb3⟩;have iC:=ζ ((cm.out.later hb3).up3 cH.out);clear hb3 d0 d1 e0 e1;refine aaI ?_);refine ζ ?_;go_wp2;go_roundw
    case rel=>exact⟨4,by omega,rfl,iC.out⟩
    case measure=>simp[intOf]
   .have hdt:decide ((Ro.check n es (Ro.hls es 0 ar)).2=0/\Fa.gz n.toNat es (Ro.hls es 0 ar)=0)=false:=decide_eq_false (fun h=>lM h.2)
    rw[hdt] at HV;have cH:Hid (Ck.code n es ⟨true,ar,xs⟩=183):=dW.trans (if_neg lM);clear hck dW hdt lM;go_wp2_with (go_at_call 53;refine HV.out.mono ?_;rintro e w3 ⟨rfl,hb3⟩;obtain⟨f0,f1,-⟩:=af ((hb3.block _ (lt_of_block jo.out)).trans jo.out);have aK:=ζ (cm.out.low.trans (hb3.mono tF.out));clear hb3 d0 d1 e0 e1;refine aaI ?_);refine ζ ?_;go_wp2;go_ret;exact⟨by rw[cH.out];rfl,aK.out⟩
  .have cH:=ζ (gF.out.ok4 (by omega))
   have Tz:=ζ gF.out.low;go_wp2;go_ret;exact⟨by rw[cH.out];rfl,Tz.out⟩
theorem Mg (n:Int) (ao:Option Addr) (ca:Nat) (es:List (Int×Int)) (ar:List (List Int)) (xs:List (Int×Int)) (xo eo:Option Addr) (xc ec:Nat) (w:World) (he:ah w ao es) (hl:es.length<=4611686018427387904) (hs:Ce.jZ w (.agg #[.bool false,.slice xo ar.length xc,.slice eo xs.length ec]) ⟨false,ar,xs⟩ xo eo xc ec) (hf:Ce.wT ⟨false,ar,xs⟩) (hx:bH w xo ar) (ht:lC w):
 Calls prog 10 #[.agg #[.int .i64 n,.slice ao es.length ca],.agg #[.bool false,.slice xo ar.length xc,.slice eo xs.length ec]] w fun e w'=>e= .returned (.int .i64 (Ck.code n es ⟨false,ar,xs⟩))/\Below w.heap.size w w':=by
 obtain⟨W,hW⟩:∃W,W=((w.alloc (.cells #[.int .i64 n,.slice ao es.length ca] 24)).alloc (.cells #[.bool false,.slice xo ar.length xc,.slice eo xs.length ec] 27)).alloc (.cells #[.int .i64 n,.slice ao es.length ca,.bool false,.slice xo ar.length xc,.slice eo xs.length ec,.slice none 0 0,.slice none 0 0] 68):=⟨_,rfl⟩;have hb0:Below w.heap.size w W:=by rw[hW];exact(((aaG _ _).alloc (aaF _) _).alloc (by simp) _).alloc (by simp;omega) _
 have hC:W.heap[w.heap.size+1]? =some (.cells #[.bool false,.slice xo ar.length xc,.slice eo xs.length ec] 27 (0,0)):=by
  rw[hW,aa0 _ _ _ (by simp)];have:=heap_alloc_new (w.alloc (.cells #[.int .i64 n,.slice ao es.length ca] 24)) (.cells #[.bool false,.slice xo ar.length xc,.slice eo xs.length ec] 27);rwa[aa7] at this
 have hX:W.heap[w.heap.size+1+1]? =some (.cells #[.int .i64 n,.slice ao es.length ca,.bool false,.slice xo ar.length xc,.slice eo xs.length ec,.slice none 0 0,.slice none 0 0] 68 (0,0)):=by
  rw[hW];have:=heap_alloc_new ((w.alloc (.cells #[.int .i64 n,.slice ao es.length ca] 24)).alloc (.cells #[.bool false,.slice xo ar.length xc,.slice eo xs.length ec] 27)) (.cells #[.int .i64 n,.slice ao es.length ca,.bool false,.slice xo ar.length xc,.slice eo xs.length ec,.slice none 0 0,.slice none 0 0] 68);rwa[aa7,aa7] at this
 have HE:Hid (∀V,Below w.heap.size w V->ah V ao es):=fun V h=>he.later h
 have yP:Hid (∀V,Below w.heap.size w V->Ce.jZ V (.agg #[.bool false,.slice xo ar.length xc,.slice eo xs.length ec]) ⟨false,ar,xs⟩ xo eo xc ec):=fun V h=>hs.later h
 have kP:Hid (∀V,Below w.heap.size w V->bH V xo ar):=fun V h=>hx.later h
 have oW:Hid (∀V,Below w.heap.size w V->lC V):=fun V h=>Aq ht h
 have rP:=ζ hx.small;have HF:=ζ hf;have HW:=ζ hW;have HX:=ζ hX;have aI:=ζ hb0;obtain⟨c0,-⟩:=bF hC;have VN:=lt_of_block hC;clear he hs hf hx ht hW hb0 hC hX;go_enter func10,ntmps10
 go_upto_region 2 with fail
 rw[<-HW.out];go_wp2_with (go_at_call 29;refine(sR false W).mono ?_;rintro e w1 ⟨g,cd,rfl,hg,BP,hb1⟩;refine aaI ?_);refine ζ ?_;have jR:Hid (iK false n ao ca es ar xs xo eo xc ec w (w.heap.size+1+1) g 0 w1):=⟨aI.out.trans (hb1.mono aI.out.size),BP,⟨_,_,(hb1.block _ (lt_of_block HX.out)).trans HX.out,fun h=>by omega⟩,by have:=lt_of_block HX.out;omega,fun h=>by omega,fun h=>by omega,fun h=>by omega,fun h=>by omega⟩;clear BP hb1 c0 hg;go_wp2;go_loopw [15] (fun cv wr=>∃i:Nat,i<=4/\cv= .int .i64 i/\iK false n ao ca es ar xs xo eo xc ec w (w.heap.size+1+1) g i wr) (fun cv _=>4-(intOf cv).toNat)
 case atStart=>exact⟨0,by omega,rfl,jR.out⟩
 case round=>
  obtain⟨i,hi,rfl,LP⟩:=hrel;obtain⟨w2,rfl⟩:∃w2,w2=wr:=⟨_,rfl⟩;have gF:=ζ LP;have hsz2:=LP.low.size;clear LP;obtain rfl|rfl|rfl|rfl|rfl:i=0\/i=1\/i=2\/i=3\/i=4:=by omega
  .have d0:w2.cell? ⟨g,0,none⟩=some (.int .i64 1):=gF.out.lQ 0 _ rfl
   have d1:w2.cell? ⟨g,1,none⟩=some (.func (.func 50) #[] #[]):=gF.out.lQ 1 _ rfl;have hba:Below w2.heap.size w2 (w2.alloc (.cells #[.int .i64 1,.func (.func 50) #[] #[]] 73)):=(aaG _ _).alloc (aaF _) _;have cm:=ζ (gF.out.later hba);have jo:=ζ (heap_alloc_new w2 (.cells #[.int .i64 1,.func (.func 50) #[] #[]] 73));have tF:Hid (w.heap.size<=(w2.alloc (.cells #[.int .i64 1,.func (.func 50) #[] #[]] 73)).heap.size):=aa1 hsz2 hba.size;have uS:Hid (w2.heap.size≠w.heap.size+1+1):=by
    show w2.heap.size≠w.heap.size+1+1;obtain⟨r,m,hb,-⟩:=gF.out.box;have:=lt_of_block hb;omega
   obtain⟨e0,e1,-⟩:=af jo.out;clear hba;obtain⟨r,m,b7,-⟩:=cm.out.box;have HV:=ζ (C5 b7 (HE.out _ cm.out.low) hl);clear b7;cases hval:Si.valid n es with
   |false=>
    rw[hval] at HV;have cH:=ζ (Ck.ux (c:=⟨false,ar,xs⟩) hval);clear hval;go_wp2_with (go_at_call 50;refine HV.out.mono ?_;rintro e w3 ⟨rfl,hb3⟩;obtain⟨f0,f1,-⟩:=af ((hb3.block _ (lt_of_block jo.out)).trans jo.out);have aK:=ζ (cm.out.low.trans (hb3.mono tF.out));clear hb3 d0 d1 e0 e1;refine aaI ?_);refine ζ ?_;go_wp2;go_ret;exact⟨by rw[cH.out];rfl,aK.out⟩
   |true=>
    rw[hval] at HV;have yO:=ζ hval;clear hval;go_wp2_with (go_at_call 50;refine HV.out.mono ?_;rintro e w3 ⟨rfl,hb3⟩;have iC:=ζ ((cm.out.later hb3).up0 yO.out);clear hb3 d0 d1 e0 e1;refine aaI ?_);refine ζ ?_;go_wp2;go_roundw
    case rel=>exact⟨1,by omega,rfl,iC.out⟩
    case measure=>simp[intOf]
  .have d0:w2.cell? ⟨g,2,none⟩=some (.int .i64 181):=gF.out.lQ 2 _ rfl
   have d1:w2.cell? ⟨g,3,none⟩=some (.func (.func 51) #[] #[]):=gF.out.lQ 3 _ rfl;have hba:Below w2.heap.size w2 (w2.alloc (.cells #[.int .i64 181,.func (.func 51) #[] #[]] 73)):=(aaG _ _).alloc (aaF _) _;have cm:=ζ (gF.out.later hba);have jo:=ζ (heap_alloc_new w2 (.cells #[.int .i64 181,.func (.func 51) #[] #[]] 73));have tF:Hid (w.heap.size<=(w2.alloc (.cells #[.int .i64 181,.func (.func 51) #[] #[]] 73)).heap.size):=aa1 hsz2 hba.size;have uS:Hid (w2.heap.size≠w.heap.size+1+1):=by
    show w2.heap.size≠w.heap.size+1+1;obtain⟨r,m,hb,-⟩:=gF.out.box;have:=lt_of_block hb;omega
   obtain⟨e0,e1,-⟩:=af jo.out;clear hba;obtain⟨r,m,b7,-⟩:=cm.out.box;have HV:=ζ (KX (c:=⟨false,ar,xs⟩) b7 (yP.out _ cm.out.low) HF.out (oW.out _ cm.out.low));have Dv:=cm.out.uH (by omega);clear b7;cases hmay:Ck.may ⟨false,ar,xs⟩ with
   |false=>
    rw[hmay] at HV;have cH:=ζ (Ck.uw Dv hmay);clear hmay;go_wp2_with (go_at_call 51;refine HV.out.mono ?_;rintro e w3 ⟨rfl,hb3⟩;obtain⟨f0,f1,-⟩:=af ((hb3.block _ (lt_of_block jo.out)).trans jo.out);have aK:=ζ (cm.out.low.trans (hb3.mono tF.out));clear hb3 d0 d1 e0 e1;refine aaI ?_);refine ζ ?_;go_wp2;go_ret;exact⟨by rw[cH.out];rfl,aK.out⟩
   |true=>
    rw[hmay] at HV;have yO:=ζ hmay;clear hmay;go_wp2_with (go_at_call 51;refine HV.out.mono ?_;rintro e w3 ⟨rfl,hb3⟩;have iC:=ζ ((cm.out.later hb3).up1 yO.out);clear hb3 d0 d1 e0 e1;refine aaI ?_);refine ζ ?_;go_wp2;go_roundw
    case rel=>exact⟨2,by omega,rfl,iC.out⟩
    case measure=>simp[intOf]
  .have d0:w2.cell? ⟨g,4,none⟩=some (.int .i64 184):=gF.out.lQ 4 _ rfl
   have d1:w2.cell? ⟨g,5,none⟩=some (.func (.func 54) #[] #[]):=gF.out.lQ 5 _ rfl;have hba:Below w2.heap.size w2 (w2.alloc (.cells #[.int .i64 184,.func (.func 54) #[] #[]] 73)):=(aaG _ _).alloc (aaF _) _;have cm:=ζ (gF.out.later hba);have jo:=ζ (heap_alloc_new w2 (.cells #[.int .i64 184,.func (.func 54) #[] #[]] 73));have tF:Hid (w.heap.size<=(w2.alloc (.cells #[.int .i64 184,.func (.func 54) #[] #[]] 73)).heap.size):=aa1 hsz2 hba.size;have uS:Hid (w2.heap.size≠w.heap.size+1+1):=by
    show w2.heap.size≠w.heap.size+1+1;obtain⟨r,m,hb,-⟩:=gF.out.box;have:=lt_of_block hb;omega
   obtain⟨e0,e1,-⟩:=af jo.out;clear hba;obtain⟨r,m,b7,-⟩:=cm.out.box;have hval:=Si.aL.1 (cm.out.uH (by omega));have HV:=ζ (Ul (q2:= .bool false) b7 (HE.out _ cm.out.low) hval.few (yP.out _ cm.out.low).es HF.out.es);have dW:=Ck.yB (c:=⟨false,ar,xs⟩) (cm.out.uH (by omega)) (cm.out.BM (by omega)) rfl;have hok:Ce.Ob xs:=by
    have:=(Ck.IX (cm.out.BM (by omega))).1;unfold Ce.good at this;rw[if_neg (fun h=>by cases h)] at this;exact this.2.1
   have hiff:=Ck.zC hval hok;clear b7 hok;unfold EK at HV;by_cases hck:(Ck.bB xs es 0).length=xs.length
   .have hdt:decide ((Ck.bB xs es 0).length=xs.length)=true:=decide_eq_true hck
    rw[hdt] at HV;have ew:=ζ (hiff.1 hck);clear hck dW hdt hiff hval;go_wp2_with (go_at_call 54;refine HV.out.mono ?_;rintro e w3 ⟨r3,rfl,yj,hw3,hr3⟩;have iC:=ζ (cm.out.adK (by omega) yj hw3 ew.out hr3);clear yj hw3 hr3 d0 d1 e0 e1;refine aaI ?_);refine ζ ?_;go_wp2;go_roundw
    case rel=>exact⟨3,by omega,rfl,iC.out⟩
    case measure=>simp[intOf]
   .have hdt:decide ((Ck.bB xs es 0).length=xs.length)=false:=decide_eq_false hck
    rw[hdt] at HV;have cH:Hid (Ck.code n es ⟨false,ar,xs⟩=184):=dW.trans (if_pos (fun h=>hck (hiff.2 h)));clear hck dW hdt hiff hval;go_wp2_with (go_at_call 54;refine HV.out.mono ?_;rintro e w3 ⟨r3,rfl,yj,hw3,-⟩;obtain⟨f0,f1,-⟩:=af ((hw3.block _ (lt_of_block jo.out) uS.out).trans jo.out);have aK:=ζ (cm.out.low.trans (hw3.below tF.out fun b hb=>by rw[hb];omega));clear yj hw3 d0 d1 e0 e1;refine aaI ?_);refine ζ ?_;go_wp2;go_ret;exact⟨by rw[cH.out];rfl,aK.out⟩
  .have d0:w2.cell? ⟨g,6,none⟩=some (.int .i64 185):=gF.out.lQ 6 _ rfl
   have d1:w2.cell? ⟨g,7,none⟩=some (.func (.func 55) #[] #[]):=gF.out.lQ 7 _ rfl;have hba:Below w2.heap.size w2 (w2.alloc (.cells #[.int .i64 185,.func (.func 55) #[] #[]] 73)):=(aaG _ _).alloc (aaF _) _;have cm:=ζ (gF.out.later hba);have jo:=ζ (heap_alloc_new w2 (.cells #[.int .i64 185,.func (.func 55) #[] #[]] 73));have tF:Hid (w.heap.size<=(w2.alloc (.cells #[.int .i64 185,.func (.func 55) #[] #[]] 73)).heap.size):=aa1 hsz2 hba.size;have uS:Hid (w2.heap.size≠w.heap.size+1+1):=by
    show w2.heap.size≠w.heap.size+1+1;obtain⟨r,m,hb,-⟩:=gF.out.box;have:=lt_of_block hb;omega
   obtain⟨e0,e1,-⟩:=af jo.out;clear hba;obtain⟨r,m,b7,UW⟩:=cm.out.box;obtain⟨yo,yc,rfl,hrw⟩:=(UW (by omega)).2 rfl;have hval:=Si.aL.1 (cm.out.uH (by omega));have hin:=(cm.out.XO (by omega)).2 rfl;have hok:Ce.Ob xs:=by
    have:=(Ck.IX (cm.out.BM (by omega))).1;unfold Ce.good at this;rw[if_neg (fun h=>by cases h)] at this;exact this.2.1
   have dr:=(Ck.zC hval hok).2 hin;have hsub:Ed.sub n es (Ck.keep xs es)=(n,xs,0):=by
    unfold Ed.sub;rw[if_neg (by rw[cm.out.uH (by omega)];decide),if_neg (fun h=>h Ck.Ux),Ck.Rq dr]
   have vZ:Si.Val n xs:=Ck.val_sub hval (Ck.pJ es xs 0 dr);have hk0:(Ku.kr n xs).2.2.2.2=0:=Ck.Uu vZ;have hkl:(Ck.keep xs es).length<=4611686018427387904:=by rw[Ck.zM];have:=(Ck.zD es xs 0).2;omega
   have HV:=ζ (Sj b7 (HE.out _ cm.out.low) hval.few hrw hkl hsub (by have:=vZ.few;omega) hk0);have dW:=Ck.yB (c:=⟨false,ar,xs⟩) (cm.out.uH (by omega)) (cm.out.BM (by omega)) rfl;rw[if_neg (fun h=>h hin)] at dW;clear b7 UW hrw hok dr hsub hk0 hkl hin hval vZ;cases lM:(Ku.kr n xs).2.2.2.1 with
   |true=>
    rw[lM] at HV;have cH:Hid (Ck.code n es ⟨false,ar,xs⟩=0):=dW.trans (if_pos lM);clear dW lM;go_wp2_with (go_at_call 55;refine HV.out.mono ?_;rintro e w3 ⟨rfl,hb3⟩;have iC:=ζ ((cm.out.later hb3).up3 cH.out);clear hb3 d0 d1 e0 e1;refine aaI ?_);refine ζ ?_;go_wp2;go_roundw
    case rel=>exact⟨4,by omega,rfl,iC.out⟩
    case measure=>simp[intOf]
   |false=>
    rw[lM] at HV;have cH:Hid (Ck.code n es ⟨false,ar,xs⟩=185):=dW.trans (if_neg (by rw[lM];decide));clear dW lM;go_wp2_with (go_at_call 55;refine HV.out.mono ?_;rintro e w3 ⟨rfl,hb3⟩;obtain⟨f0,f1,-⟩:=af ((hb3.block _ (lt_of_block jo.out)).trans jo.out);have aK:=ζ (cm.out.low.trans (hb3.mono tF.out));clear hb3 d0 d1 e0 e1;refine aaI ?_);refine ζ ?_;go_wp2;go_ret;exact⟨by rw[cH.out];rfl,aK.out⟩
  .have cH:=ζ (gF.out.ok4 (by omega))
   have Tz:=ζ gF.out.low;go_wp2;go_ret;exact⟨by rw[cH.out];rfl,Tz.out⟩
theorem qM (n:Int) (ao:Option Addr) (ca:Nat) (es:List (Int×Int)) (c:Ce.Cert) (v:Value) (xo eo:Option Addr) (xc ec:Nat) (w:World) (he:ah w ao es) (hl:es.length<=4611686018427387904) (hs:Ce.jZ w v c xo eo xc ec) (hf:Ce.wT c) (hx:bH w xo c.ar) (ht:lC w):
 Calls prog 10 #[.agg #[.int .i64 n,.slice ao es.length ca],v] w fun e w'=>e= .returned (.int .i64 (Ck.code n es c))/\Below w.heap.size w w':=by
 have hv:=hs.val;subst hv;obtain⟨pl,ar,xs⟩:=c;cases pl
 .exact Mg n ao ca es ar xs xo eo xc ec w he hl hs hf hx ht
 .exact Jq n ao ca es ar xs xo eo xc ec w he hl hs hf hx ht
end
end Go.Proofs.YtdbjpbjocmcpkaaGreatDoor
