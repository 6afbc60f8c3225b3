import Derived.Test.YtdbjpbjocmcpkaaGreatDoorMg31
import Derived.Test.YtdbjpbjocmcpkaaGreatDoorMg21
set_option maxHeartbeats 8000000
set_option maxRecDepth 100000
namespace Go.Proofs.YtdbjpbjocmcpkaaGreatDoor
section
open Go.RowKit
structure eI (w:World) (pl:Bool) (ao eo:Option Addr) (na ca ne ce:Nat) (v:Value) (L:List UInt8) (W:World):Prop where
 low:Below w.heap.size w W
 box:W.heap[w.heap.size]? =some (.cells #[.bool pl,.slice ao na ca,.slice eo ne ce] 27 (0,0))
 nZ:Ce.vh W (w.heap.size+1) v L
section
variable {w W W':World} {pl:Bool} {ao eo:Option Addr} {na ca ne ce:Nat} {v:Value} {L:List UInt8}
theorem Ce.vh.lt {B:Nat} (h:Ce.vh W B v L) (b:Nat) (hb:v.ownBlock=some b):B<=b/\b<W.heap.size:=aap h b hb
theorem eI.start:eI w pl ao eo na ca ne ce (.slice none 0 0) [] (w.alloc (.cells #[.bool pl,.slice ao na ca,.slice eo ne ce] 27)):=
 ⟨(aae _ _).alloc (aad _) _,heap_alloc_new w _,Ce.vh.nil _ _⟩
theorem eI.later (h:eI w pl ao eo na ca ne ce v L W) (hb:Below W.heap.size W W'):eI w pl ao eo na ca ne ce v L W':=
 ⟨h.low.trans (hb.mono h.low.size),(hb.block _ (lt_of_block h.box)).trans h.box,by
   refine⟨h.nZ.1,?_⟩;rcases h.nZ.2 with h1|⟨g,cap,cur,e,hgB,hh,hr⟩
   .exact .inl h1
   .exact .inr ⟨g,cap,cur,e,hgB,(hb.block _ (lt_of_block hh)).trans hh,hr⟩⟩
theorem eI.size (h:eI w pl ao eo na ca ne ce v L W):w.heap.size+1<=W.heap.size:=lt_of_block h.box
theorem eI.grown (h:eI w pl ao eo na ca ne ce v L W) {v':Value} {L':List UInt8} (h1:Ce.vh W' (w.heap.size+1) v' L') (h2:W.grownBy W' v.ownBlock):eI w pl ao eo na ca ne ce v' L' W':=by
 have BR:some w.heap.size≠v.ownBlock:=fun e=>by have:=(h.nZ.lt _ e.symm).1;omega
 refine⟨?_,(h2.block _ (lt_of_block h.box) BR).trans h.box,h1⟩;exact h.low.grown h2 (by have:=h.size;omega) (fun b hb=>by have:=(h.nZ.lt b hb).1;omega)
theorem eI.cells (h:eI w pl ao eo na ca ne ce v L W):W.cell? ⟨w.heap.size,0,none⟩=some (.bool pl)/\W.cell? ⟨w.heap.size,1,none⟩=some (.slice ao na ca)/\W.cell? ⟨w.heap.size,2,none⟩=some (.slice eo ne ce)/\∀i,W.frozen? ⟨w.heap.size,i,none⟩=false:=bw h.box
theorem eI.form (h:eI w pl ao eo na ca ne ce v L W):∃vo vc,v= .slice vo L.length vc:=by
 rcases h.nZ.2 with ⟨rfl,h0⟩|⟨g,cap,cur,rfl,-⟩
 .exact⟨none,0,by rw[h0]⟩
 .exact⟨_,_,rfl⟩
theorem eI.read (h:eI w pl ao eo na ca ne ce v L W) {vo:Option Addr} {vc:Nat} (hv:v= .slice vo L.length vc) (j:Nat) (hj:j<L.length):∃g,vo=some ⟨g,0,none⟩/\W.cell? ⟨g,j,none⟩=some (.int .u8 (L[j].toNat:Int)):=by
 rcases h.nZ.2 with ⟨-,h0⟩|⟨g,cap,cur,e,hB,hh,hl,hc,hs,ht⟩
 .omega
 .rw[hv] at e
  cases e;refine⟨g,rfl,?_⟩;rw[cell_of_row W g j cur _ _ hh];have h1:(cur.toList.take (L.length*1))[j]? =(Lib.byteCells L)[j]? :=by rw[ht]
  rw[aci,if_pos (by omega)] at h1;rw[<-Array.getElem?_toList,h1];simp[Lib.byteCells,hj]
end
theorem qo {x:Int} (h:Ce.dH x) (w:World):Calls Tryz.prog 58 #[.int .i64 x] w fun e w'=>e= .returned (.string ⟨(Ce.dg x).toArray⟩)/\Below w.heap.size w w':=by
 obtain⟨m,rfl⟩:∃m:Nat,x=(m:Int):=⟨x.toNat,by have:=h.1;omega⟩;have h1:=h.2;refine(FE (m:Int) (by omega) (by omega) w).mono ?_;rintro e w' ⟨rfl,hg⟩;refine⟨?_,(aae _ _).grown hg (aad _) (fun k hk=>by cases hk)⟩;rw[aeG];rfl
end
section
open Go.Proofs.Tryz
open Go.RowKit
theorem Dg {w:World} {c:Ce.Cert} {ao eo:Option Addr} {ca ce:Nat} (ha:Ce.fC w ao c.ar) (he:ah w eo c.es) (h1:c.ar.length<=4611686018427387904) (h2:c.es.length<=4611686018427387904) (hl:∀l∈c.ar,l.length<=4611686018427387904) (hg:¬Ce.good c):
 Calls prog 30 #[.agg #[.bool c.pl,.slice ao c.ar.length ca,.slice eo c.es.length ce]] w fun e w'=>e= .returned (.tuple #[.string ⟨#[]⟩,.int .i64 170])/\Below w.heap.size w w':=by
 obtain⟨pl,ar,es⟩:=c;dsimp only at ha he h1 h2 hl ⊢;have HS:=ζ (eI.start (w:=w) (pl:=pl) (ao:=ao) (eo:=eo) (na:=ar.length) (ca:=ca) (ne:=es.length) (ce:=ce));have HA:Hid (∀W,Below w.heap.size w W->Calls prog 56 #[.slice ao ar.length ca] W fun e w'=>Ce.Says e (Ce.yG ar)/\Below W.heap.size W w'):=fun W hW=>tC (ha.later hW) h1 hl
 have HE:Hid (∀W,Below w.heap.size w W->Calls prog 57 #[.slice eo es.length ce] W fun e w'=>Ce.Says e (Ce.kj es)/\Below W.heap.size W w'):=fun W hW=>tD (he.later hW) h2
 clear ha he hl;obtain⟨n,hn⟩:∃n,ar.length=n:=⟨_,rfl⟩;obtain⟨m,hm⟩:∃m,es.length=m:=⟨_,rfl⟩;rw[hn] at HS HA h1 ⊢;rw[hm] at HS HE h2 ⊢;obtain⟨v0,v1,v2,vf⟩:=HS.out.cells;cases pl with
 |true=>
  by_cases hm0:0<m
  .have UK:(0:Int)<(m:Int):=by omega
   have HB:=ζ HS.out.low;clear hg hn hm;go_enter func30,ntmps30;go_wp2;go_ret2;exact⟨rfl,HB.out⟩
  .have UK:¬((0:Int)<(m:Int)):=by omega
   have hno:¬Ce.yG ar:=fun h=>hg (by
    unfold Ce.good;rw[if_pos rfl];exact⟨abM.1 (by show es.length=0;omega),h⟩)
   have HA1:Hid (Calls prog 56 #[.slice ao n ca] (w.alloc (.cells #[.bool true,.slice ao n ca,.slice eo m ce] 27)) fun e w'=>e= .returned (.bool false)/\eI w true ao eo n ca m ce (.slice none 0 0) [] w'):=(HA.out _ HS.out.low).mono (by
    rintro e w' ⟨⟨t,he,ht⟩,hb⟩;refine⟨?_,HS.out.later hb⟩;rw[he];cases t with
    |true=>exact absurd (ht.1 rfl) hno
    |false=>rfl)
   clear hg hn hm hno;go_enter func30,ntmps30;go_wp2_with (go_at_call 56;refine HA1.out.mono ?_;rintro e w1 ⟨rfl,hp⟩;have HP:=ζ hp;clear hp v0 v1 v2 vf;obtain⟨v0,v1,v2,vf⟩:=HP.out.cells);go_ret2;exact⟨rfl,HP.out.low⟩
 |false=>
  by_cases hn0:0<n
  .have hni:(0:Int)<(n:Int):=by omega
   have HB:=ζ HS.out.low;clear hg hn hm;go_enter func30,ntmps30;go_wp2;go_ret2;exact⟨rfl,HB.out⟩
  .have hni:¬((0:Int)<(n:Int)):=by omega
   have hno:¬Ce.kj es:=fun h=>hg (by
    unfold Ce.good;rw[if_neg (by simp)];exact⟨abM.1 (by show ar.length=0;omega),h⟩)
   have yj:Hid (Calls prog 57 #[.slice eo m ce] (w.alloc (.cells #[.bool false,.slice ao n ca,.slice eo m ce] 27)) fun e w'=>e= .returned (.bool false)/\eI w false ao eo n ca m ce (.slice none 0 0) [] w'):=(HE.out _ HS.out.low).mono (by
    rintro e w' ⟨⟨t,he,ht⟩,hb⟩;refine⟨?_,HS.out.later hb⟩;rw[he];cases t with
    |true=>exact absurd (ht.1 rfl) hno
    |false=>rfl)
   clear hg hn hm hno;go_enter func30,ntmps30;go_wp2_with (go_at_call 57;refine yj.out.mono ?_;rintro e w1 ⟨rfl,hp⟩;have HP:=ζ hp;clear hp v0 v1 v2 vf;obtain⟨v0,v1,v2,vf⟩:=HP.out.cells);go_ret2;exact⟨rfl,HP.out.low⟩
end
section
open Go.Proofs.Tryz
open Go.RowKit
theorem eI.conv {w W:World} {pl:Bool} {ao eo:Option Addr} {na ca ne ce:Nat} {v:Value} {T:List UInt8} (h:eI w pl ao eo na ca ne ce v T W) (h0:0<T.length):∃g vc,v= .slice (some ⟨g,0,none⟩) T.length vc/\(convert 35 9 v).run prog W= .ok (.string ⟨T.toArray⟩) W:=by
 obtain⟨vo,vc,hv⟩:=h.form;obtain⟨g,rfl,-⟩:=h.read hv 0 h0;refine⟨g,vc,hv,?_⟩;rw[hv];refine run_convert_bytes_back (P:=prog) _ 35 9 5 ⟨g,0,none⟩ vc T Tryz.underlying35 Tryz.underlying5 Tryz.underlying9 ?_;intro j hj;obtain⟨g',e,hc⟩:=h.read hv j hj;cases e;have ea:((⟨g,0,none⟩:Addr).add j)=⟨g,j,none⟩:=by unfold Addr.add;split<;>simp_all
 rw[ea];exact hc
theorem zC {w:World} {es:List (Int×Int)} {ao eo:Option Addr} {n ca ce:Nat} (he:ah w eo es) (hn:n=0) (hg:Ce.kj es) (T:List UInt8) (hT:Ce.eA ⟨false,[],es⟩=T) (nh:T.length<=70368744177664):
 Calls prog 30 #[.agg #[.bool false,.slice ao n ca,.slice eo es.length ce]] w fun e w'=>Qd T e/\Below w.heap.size w w':=by
 subst hn;have HS:=ζ (eI.start (w:=w) (pl:=false) (ao:=ao) (eo:=eo) (na:=0) (ca:=ca) (ne:=es.length) (ce:=ce));have h2:es.length<=4611686018427387904:=by have:=hg.2;omega
 have yj:Hid (Calls prog 57 #[.slice eo es.length ce] (w.alloc (.cells #[.bool false,.slice ao 0 ca,.slice eo es.length ce] 27)) fun e w'=>e= .returned (.bool true)/\eI w false ao eo 0 ca es.length ce (.slice none 0 0) [] w'):=(tD (he.later HS.out.low) h2).mono (by
  rintro e w' ⟨⟨t,he,ht⟩,hb⟩;refine⟨?_,HS.out.later hb⟩;rw[he];cases t with
  |true=>rfl
  |false=>exact absurd (ht.2 hg) aem)
 obtain⟨m,hm⟩:∃m,es.length=m:=⟨_,rfl⟩;have hms:m<=4194304:=by have:=hg.2;omega
 have hok:Ce.dH (m:Int):=⟨by omega,by omega⟩;obtain⟨D,hD⟩:∃D,Ce.dg (m:Int)=D:=⟨_,rfl⟩;have hDl:D.length<=9:=by rw[<-hD];exact Ce.kZ hok
 have YW:Hid (∀W,Calls prog 58 #[.int .i64 (m:Int)] W fun e w'=>e= .returned (.string ⟨D.toArray⟩)/\Below W.heap.size W w'):=fun W=>by rw[<-hD];exact qo hok W
 have M8:Hid ([110,32]++D++[10]++(es.drop 0).flatMap Ce.gZ=T):=by
  refine ζ ?_;rw[<-hT,<-hD,<-hm];simp[Ce.eA,Ce.Cw,Ce.uM]
 have HG:=ζ hg;have HEs:=ζ he;have HM:=ζ hm;have xX:=ζ nh;rw[hm] at HS yj h2 ⊢;obtain⟨v0,v1,v2,vf⟩:=HS.out.cells;clear he hg hT nh hm hok hD;go_enter func30,ntmps30;have mh:([]:List UInt8).length+([110,32]:List UInt8).length<=140737488355328:=by simp
 go_wp2_with (first|(go_at_call 57;refine yj.out.mono ?_;rintro e w0 ⟨rfl,hp⟩;have HP:=ζ hp;clear hp v0 v1 v2 vf;obtain⟨v0,v1,v2,vf⟩:=HP.out.cells)|(at_builtin;refine cB rfl _ _ rfl _ (w.heap.size+1) _ _ [110,32] HP.out.nZ HP.out.size mh rfl _ rfl rfl ?_;refine aaj ?_));refine ζ ?_;intro x1 w1 qa qb;have hh:=(HP.out.later ((aae _ _).alloc (aad _) _)).grown qa qb;have aI:Hid (eI w false ao eo 0 ca m ce x1 ([]++[110,32]) w1):=ζ (by first|exact hh|(simp only[aaR,abi,abm] at hh ⊢;exact hh));clear qa qb hh mh;clear v0 v1 v2 vf;obtain⟨v0,v1,v2,vf⟩:=aI.out.cells;have hl2:([]++[110,32]:List UInt8).length+(D:List UInt8).length<=140737488355328:=by simp;omega
 go_wp2_with (first|(go_at_call 58;refine(YW.out _).mono ?_;rintro e y2 ⟨rfl,hb⟩;have sU:=ζ (aI.out.later hb);clear hb v0 v1 v2 vf;obtain⟨v0,v1,v2,vf⟩:=sU.out.cells)|(at_builtin;refine dz rfl _ _ rfl _ (w.heap.size+1) _ _ D rfl rfl sU.out.nZ hl2 (by have:=sU.out.size;omega) ?_;refine aaj ?_));refine ζ ?_;intro x2 w2 qa qb;have hh:=sU.out.grown qa qb;have aB:Hid (eI w false ao eo 0 ca m ce x2 ([]++[110,32]++D) w2):=ζ (by first|exact hh|(simp only[aaR,abi,abm] at hh ⊢;exact hh));clear qa qb hh hl2;clear v0 v1 v2 vf;obtain⟨v0,v1,v2,vf⟩:=aB.out.cells;have hl3:([]++[110,32]++D:List UInt8).length+([10]:List UInt8).length<=140737488355328:=by simp;omega
 go_wp2_with (first|(at_builtin;refine cB rfl _ _ rfl _ (w.heap.size+1) _ _ [10] aB.out.nZ aB.out.size hl3 rfl _ rfl rfl ?_;refine aaj ?_));refine ζ ?_;intro x3 w3 qa qb;have hh:=(aB.out.later ((aae _ _).alloc (aad _) _)).grown qa qb;have aJ:Hid (eI w false ao eo 0 ca m ce x3 ([]++[110,32]++D++[10]) w3):=ζ (by first|exact hh|(simp only[aaR,abi,abm] at hh ⊢;exact hh));clear qa qb hh hl3;clear v0 v1 v2 vf;obtain⟨v0,v1,v2,vf⟩:=aJ.out.cells;go_wp2;go_loopw [4,7] (fun bv iv wr=>∃(k:Nat) (v:Value) (L:List UInt8),k<=m/\iv= .int .i64 (k:Int)/\bv=v/\eI w false ao eo 0 ca m ce v L wr/\L++(es.drop k).flatMap Ce.gZ=T) (fun _ iv _=>m-(intOf iv).toNat)
 case atStart=>exact⟨0,_,_,aax _,rfl,rfl,aJ.out,M8.out⟩
 case round=>
  obtain⟨k,v,L,hk,rfl,rfl,hps,heq⟩:=hrel;clear v0 v1 v2 vf;have j9:=ζ hps;have HQ:=ζ heq;clear hps heq;obtain⟨v0,v1,v2,vf⟩:=j9.out.cells;by_cases hlt:k<m
  .have aQ:(k:Int)<(m:Int):=by omega
   have k0:(0:Int)<=(k:Int):=by omega
   obtain⟨⟨p,q⟩,hp⟩:∃p,es[k]? =some p:=⟨_,aac (by have:=HM.out;omega)⟩;obtain⟨hop,hoq,-⟩:=HG.out.1.1 _ (aai hp);dsimp only at hop hoq;have HK:=ζ hp;rw[Ce.Cl hp,ad5] at HQ;obtain⟨R,hR⟩:∃R,(es.drop (k+1)).flatMap Ce.gZ=R:=⟨_,rfl⟩;rw[hR] at HQ;obtain⟨D1,Mn⟩:∃D,Ce.dg p=D:=⟨_,rfl⟩;obtain⟨D2,YH⟩:∃D,Ce.dg q=D:=⟨_,rfl⟩;have zV:Hid (∀W,Calls prog 58 #[.int .i64 p] W fun e w'=>e= .returned (.string ⟨D1.toArray⟩)/\Below W.heap.size W w'):=fun W=>by rw[<-Mn];exact qo hop W
   have HT2:Hid (∀W,Calls prog 58 #[.int .i64 q] W fun e w'=>e= .returned (.string ⟨D2.toArray⟩)/\Below W.heap.size W w'):=fun W=>by rw[<-YH];exact qo hoq W
   have qF:L++D1++[32]++D2++[10]++R=T:=by
    rw[<-HQ.out,<-Mn,<-YH];simp[Ce.gZ]
   have XK:=congrArg List.length qF;simp only[aar,abl,abU] at XK;have MX:=ζ qF;have wO:=ζ XK;have HR:=ζ hR;clear hp hop hoq Mn YH hR qF XK;obtain⟨b,o,rfl,c0,c1⟩:=HEs.out.later j9.out.low k (p,q) HK.out;dsimp only at c0 c1;have hl4:(L:List UInt8).length+(D1:List UInt8).length<=140737488355328:=by have:=wO.out;have:=xX.out;(try simp only[aar,abl,abU]);omega
   go_wp2_with (first|(go_at_call 58;refine(zV.out _).mono ?_;rintro e y4 ⟨rfl,hb⟩;have z7:=ζ (j9.out.later hb);clear hb v0 v1 v2 vf;obtain⟨v0,v1,v2,vf⟩:=z7.out.cells)|(at_builtin;refine dz rfl _ _ rfl _ (w.heap.size+1) _ _ D1 rfl rfl z7.out.nZ hl4 (by have:=z7.out.size;omega) ?_;refine aaj ?_));refine ζ ?_;intro x4 w4 qa qb;have hh:=z7.out.grown qa qb;have dy:Hid (eI w false ao (some ⟨b,o,none⟩) 0 ca m ce x4 (L++D1) w4):=ζ (by first|exact hh|(simp only[aaR,abi,abm] at hh ⊢;exact hh));clear qa qb hh hl4;clear v0 v1 v2 vf;obtain⟨v0,v1,v2,vf⟩:=dy.out.cells;have BM:(L++D1:List UInt8).length+([32]:List UInt8).length<=140737488355328:=by have:=wO.out;have:=xX.out;(try simp only[aar,abl,abU]);omega
   go_wp2_with (first|(at_builtin;refine cB rfl _ _ rfl _ (w.heap.size+1) _ _ [32] dy.out.nZ dy.out.size BM rfl _ rfl rfl ?_;refine aaj ?_));refine ζ ?_;intro x5 w5 qa qb;have hh:=(dy.out.later ((aae _ _).alloc (aad _) _)).grown qa qb;have fJ:Hid (eI w false ao (some ⟨b,o,none⟩) 0 ca m ce x5 (L++D1++[32]) w5):=ζ (by first|exact hh|(simp only[aaR] at hh ⊢;exact hh));clear qa qb hh BM;clear v0 v1 v2 vf;obtain⟨v0,v1,v2,vf⟩:=fJ.out.cells;clear c0 c1;obtain⟨b',o',e',c0,c1⟩:=HEs.out.later fJ.out.low k (p,q) HK.out;cases e';dsimp only at c0 c1;have DI:(L++D1++[32]:List UInt8).length+(D2:List UInt8).length<=140737488355328:=by have:=wO.out;have:=xX.out;(try simp only[aar,abl,abU]);omega
   go_wp2_with (first|(go_at_call 58;refine(HT2.out _).mono ?_;rintro e y6 ⟨rfl,hb⟩;have G8:=ζ (fJ.out.later hb);clear hb v0 v1 v2 vf;obtain⟨v0,v1,v2,vf⟩:=G8.out.cells)|(at_builtin;refine dz rfl _ _ rfl _ (w.heap.size+1) _ _ D2 rfl rfl G8.out.nZ DI (by have:=G8.out.size;omega) ?_;refine aaj ?_));refine ζ ?_;intro x6 w6 qa qb;have hh:=G8.out.grown qa qb;have ot:Hid (eI w false ao (some ⟨b,o,none⟩) 0 ca m ce x6 (L++D1++[32]++D2) w6):=ζ (by first|exact hh|(simp only[aaR,abi,abm] at hh ⊢;exact hh));clear qa qb hh DI;clear v0 v1 v2 vf;obtain⟨v0,v1,v2,vf⟩:=ot.out.cells;have RU:(L++D1++[32]++D2:List UInt8).length+([10]:List UInt8).length<=140737488355328:=by have:=wO.out;have:=xX.out;(try simp only[aar,abl,abU]);omega
   go_wp2_with (first|(at_builtin;refine cB rfl _ _ rfl _ (w.heap.size+1) _ _ [10] ot.out.nZ ot.out.size RU rfl _ rfl rfl ?_;refine aaj ?_));refine ζ ?_;intro x7 w7 qa qb;have hh:=(ot.out.later ((aae _ _).alloc (aad _) _)).grown qa qb;have z8:Hid (eI w false ao (some ⟨b,o,none⟩) 0 ca m ce x7 (L++D1++[32]++D2++[10]) w7):=ζ (by first|exact hh|(simp only[aaR,abi,abm] at hh ⊢;exact hh));clear qa qb hh RU;clear v0 v1 v2 vf;obtain⟨v0,v1,v2,vf⟩:=z8.out.cells;go_wp2;go_roundw
   case rel=>exact⟨k+1,_,_,by omega,by go_num,rfl,z8.out,by rw[HR.out];exact MX.out⟩
   case measure=>simp[intOf];omega
  .have aQ:¬((k:Int)<(m:Int)):=by omega
   obtain rfl:k=m:=by omega
   have hz:es.drop k=[]:=adl (by have:=HM.out;omega);rw[hz] at HQ;have YA:L=T:=by have:=HQ.out;simpa using this
   subst YA;obtain⟨g,vc,rfl,kc⟩:=j9.out.conv (by
    rw[<-M8.out];simp)
   clear hz;obtain⟨N,hN⟩:∃N,L.length=N:=⟨_,rfl⟩;have HN:=ζ hN;have HKC:=ζ kc;have Te:=xX.out;rw[hN] at kc Te ⊢;clear hN;by_cases hbig:33554432<N
   .have gY:(33554432:Int)<(N:Int):=by omega
    clear kc;go_wp2;go_ret2;exact⟨.inl ⟨by have:=HN.out;omega,rfl⟩,j9.out.low⟩
   .have gY:¬((33554432:Int)<(N:Int)):=by omega
    go_wp2;go_ret2;exact⟨.inr ⟨by have:=HN.out;omega,rfl⟩,j9.out.low⟩
end
section
open Go.Proofs.Tryz
open Go.RowKit
theorem zB {w:World} {ls:List (List Int)} {ao eo:Option Addr} {m ca ce:Nat} (ha:Ce.fC w ao ls) (hn:m=0) (hg:Ce.yG ls) (hl:∀l∈ls,l.length<=4611686018427387904) (T:List UInt8) (hT:Ce.eA ⟨true,ls,[]⟩=T) (nh:T.length<=70368744177664):
 Calls prog 30 #[.agg #[.bool true,.slice ao ls.length ca,.slice eo m ce]] w fun e w'=>Qd T e/\Below w.heap.size w w':=by
 subst hn;have HS:=ζ (eI.start (w:=w) (pl:=true) (ao:=ao) (eo:=eo) (na:=ls.length) (ca:=ca) (ne:=0) (ce:=ce));have h2:ls.length<=4611686018427387904:=by have:=hg.2;omega
 have yj:Hid (Calls prog 56 #[.slice ao ls.length ca] (w.alloc (.cells #[.bool true,.slice ao ls.length ca,.slice eo 0 ce] 27)) fun e w'=>e= .returned (.bool true)/\eI w true ao eo ls.length ca 0 ce (.slice none 0 0) [] w'):=(tC (ha.later HS.out.low) h2 hl).mono (by
  rintro e w' ⟨⟨t,he,ht⟩,hb⟩;refine⟨?_,HS.out.later hb⟩;rw[he];cases t with
  |true=>rfl
  |false=>exact absurd (ht.2 hg) aem)
 obtain⟨n,hm⟩:∃n,ls.length=n:=⟨_,rfl⟩;have hms:n<=1048576:=by have:=hg.2;omega
 have hok:Ce.dH (n:Int):=⟨by omega,by omega⟩;obtain⟨D,hD⟩:∃D,Ce.dg (n:Int)=D:=⟨_,rfl⟩;have hDl:D.length<=9:=by rw[<-hD];exact Ce.kZ hok
 have YW:Hid (∀W,Calls prog 58 #[.int .i64 (n:Int)] W fun e w'=>e= .returned (.string ⟨D.toArray⟩)/\Below W.heap.size W w'):=fun W=>by rw[<-hD];exact qo hok W
 have M8:Hid ([112,32]++D++[10]++(ls.drop 0).flatMap Ce.bU=T):=by
  refine ζ ?_;rw[<-hT,<-hD,<-hm];simp[Ce.eA,Ce.Cw,Ce.uM]
 have HG:=ζ hg;have Vw:=ζ ha;have om:=ζ hl;have HM:=ζ hm;have xX:=ζ nh;rw[hm] at HS yj h2 ⊢;obtain⟨v0,v1,v2,vf⟩:=HS.out.cells;clear ha hl hg hT nh hm hok hD;go_enter func30,ntmps30;have mh:([]:List UInt8).length+([112,32]:List UInt8).length<=140737488355328:=by simp
 go_wp2_with (first|(go_at_call 56;refine yj.out.mono ?_;rintro e w0 ⟨rfl,hp⟩;have HP:=ζ hp;clear hp v0 v1 v2 vf;obtain⟨v0,v1,v2,vf⟩:=HP.out.cells)|(at_builtin;refine cB rfl _ _ rfl _ (w.heap.size+1) _ _ [112,32] HP.out.nZ HP.out.size mh rfl _ rfl rfl ?_;refine aaj ?_));refine ζ ?_;intro x1 w1 qa qb;have hh:=(HP.out.later ((aae _ _).alloc (aad _) _)).grown qa qb;have aI:Hid (eI w true ao eo n ca 0 ce x1 ([]++[112,32]) w1):=ζ (by first|exact hh|(simp only[aaR,abi,abm] at hh ⊢;exact hh));clear qa qb hh mh;clear v0 v1 v2 vf;obtain⟨v0,v1,v2,vf⟩:=aI.out.cells;have hl2:([]++[112,32]:List UInt8).length+(D:List UInt8).length<=140737488355328:=by simp;omega
 go_wp2_with (first|(go_at_call 58;refine(YW.out _).mono ?_;rintro e y2 ⟨rfl,hb⟩;have sU:=ζ (aI.out.later hb);clear hb v0 v1 v2 vf;obtain⟨v0,v1,v2,vf⟩:=sU.out.cells)|(at_builtin;refine dz rfl _ _ rfl _ (w.heap.size+1) _ _ D rfl rfl sU.out.nZ hl2 (by have:=sU.out.size;omega) ?_;refine aaj ?_));refine ζ ?_;intro x2 w2 qa qb;have hh:=sU.out.grown qa qb;have aB:Hid (eI w true ao eo n ca 0 ce x2 ([]++[112,32]++D) w2):=ζ (by first|exact hh|(simp only[aaR,abi,abm] at hh ⊢;exact hh));clear qa qb hh hl2;clear v0 v1 v2 vf;obtain⟨v0,v1,v2,vf⟩:=aB.out.cells;have hl3:([]++[112,32]++D:List UInt8).length+([10]:List UInt8).length<=140737488355328:=by simp;omega
 go_wp2_with (first|(at_builtin;refine cB rfl _ _ rfl _ (w.heap.size+1) _ _ [10] aB.out.nZ aB.out.size hl3 rfl _ rfl rfl ?_;refine aaj ?_));refine ζ ?_;intro x3 w3 qa qb;have hh:=(aB.out.later ((aae _ _).alloc (aad _) _)).grown qa qb;have aJ:Hid (eI w true ao eo n ca 0 ce x3 ([]++[112,32]++D++[10]) w3):=ζ (by first|exact hh|(simp only[aaR,abi,abm] at hh ⊢;exact hh));clear qa qb hh hl3;clear v0 v1 v2 vf;obtain⟨v0,v1,v2,vf⟩:=aJ.out.cells;go_wp2;go_loopw [4,5] (fun bv iv wr=>∃(k:Nat) (v:Value) (L:List UInt8),k<=n/\iv= .int .i64 (k:Int)/\bv=v/\eI w true ao eo n ca 0 ce v L wr/\L++(ls.drop k).flatMap Ce.bU=T) (fun _ iv _=>n-(intOf iv).toNat)
 case atStart=>exact⟨0,_,_,aax _,rfl,rfl,aJ.out,M8.out⟩
 case round=>
  obtain⟨k,v,L,hk,rfl,rfl,hps,heq⟩:=hrel;clear v0 v1 v2 vf;have j9:=ζ hps;have HQ:=ζ heq;clear hps heq;obtain⟨v0,v1,v2,vf⟩:=j9.out.cells;by_cases hlt:k<n
  .have aQ:(k:Int)<(n:Int):=by omega
   have k0:(0:Int)<=(k:Int):=by omega
   obtain⟨l,hp⟩:∃l,ls[k]? =some l:=⟨_,aac (by have:=HM.out;omega)⟩;have fX:=ζ (HG.out.1 _ (aai hp));have pV:=om.out _ (aai hp);have HK:=ζ hp;rw[Ce.Cl hp,ad5] at HQ;obtain⟨R,hR⟩:∃R,(ls.drop (k+1)).flatMap Ce.bU=R:=⟨_,rfl⟩;rw[hR] at HQ;have HQ1:Hid (L++(Ce.rem l 0++10::R)=T):=by
    refine ζ ?_;rw[<-HQ.out];simp[Ce.bU,Ce.rem]
   obtain⟨q,hq⟩:∃q,l.length=q:=⟨_,rfl⟩;rw[hq] at pV;have GZ:=ζ hq;have HR:=ζ hR;clear hp hR hq HQ;go_wp2;go_loopw [4,6] (fun bv jv wr=>∃(j:Nat) (v:Value) (L:List UInt8),j<=q/\jv= .int .i64 (j:Int)/\bv=v/\eI w true ao eo n ca 0 ce v L wr/\L++(Ce.rem l j++10::R)=T) (fun _ jv _=>q-(intOf jv).toNat)
   case atStart=>exact⟨0,_,_,aax _,rfl,rfl,j9.out,HQ1.out⟩
   case round=>
    obtain⟨j,v,L,hj,rfl,rfl,hps,heq⟩:=hrel;clear v0 v1 v2 vf j9 HQ1;have j9:=ζ hps;have HQ:=ζ heq;clear hps heq;obtain⟨v0,v1,v2,vf⟩:=j9.out.cells;have j0:(0:Int)<=(j:Int):=by omega
    by_cases hjq:j<q
    .have aa6:(j:Int)<(q:Int):=by omega
     obtain⟨x,hx⟩:∃x,l[j]? =some x:=⟨_,aac (by have:=GZ.out;omega)⟩;have hox:=(fX.out x (aai hx)).1;obtain⟨D1,Mn⟩:∃D,Ce.dg x=D:=⟨_,rfl⟩;have zV:Hid (∀W,Calls prog 58 #[.int .i64 x] W fun e w'=>e= .returned (.string ⟨D1.toArray⟩)/\Below W.heap.size W w'):=fun W=>by rw[<-Mn];exact qo hox W
     have HX:=ζ hx;have HD1:=ζ Mn;clear hx hox Mn;by_cases hj0:j=0
     .have m3:¬((0:Int)<(j:Int)):=by omega
      have O0:¬(0<j):=by omega
      have m3c:decide (0<j)=false:=decide_eq_false O0;have MX:Hid (L++D1++(Ce.rem l (j+1)++10::R)=T):=by
       refine ζ ?_;rw[<-HQ.out,<-HD1.out,hj0,Ce.Lp (by rw[<-hj0];exact HX.out)];simp
      clear hj0;have wO:=ζ (congrArg List.length MX.out);simp only[aar,abl] at wO;obtain⟨b,o,xa,xc,rfl,c0,oL⟩:=Vw.out.later j9.out.low k l HK.out;rw[GZ.out] at c0;obtain⟨xb,xo,rfl,c1⟩:=oL j x HX.out;clear oL;have hl4:(L:List UInt8).length+(D1:List UInt8).length<=140737488355328:=by have:=wO.out;have:=xX.out;(try simp only[aar,abl,abU]);omega
      go_wp2_with (first|(go_at_call 58;refine(zV.out _).mono ?_;rintro e y4 ⟨rfl,hb⟩;have z7:=ζ (j9.out.later hb);clear hb v0 v1 v2 vf;obtain⟨v0,v1,v2,vf⟩:=z7.out.cells)|(at_builtin;refine dz rfl _ _ rfl _ (w.heap.size+1) _ _ D1 rfl rfl z7.out.nZ hl4 (by have:=z7.out.size;omega) ?_;refine aaj ?_));refine ζ ?_;intro x4 w4 qa qb;have hh:=z7.out.grown qa qb;have dy:Hid (eI w true (some ⟨b,o,none⟩) eo n ca 0 ce x4 (L++D1) w4):=ζ (by first|exact hh|(simp only[aaR,abi,abm] at hh ⊢;exact hh));clear qa qb hh hl4;clear v0 v1 v2 vf;obtain⟨v0,v1,v2,vf⟩:=dy.out.cells;go_wp2;go_roundw
      case rel=>exact⟨j+1,_,_,by omega,by go_num,rfl,dy.out,by rw[<-MX.out];try simp⟩
      case measure=>simp[intOf];omega
     .have m3:(0:Int)<(j:Int):=by omega
      have O0:0<j:=by omega
      have m3c:decide (0<j)=true:=decide_eq_true O0;have MX:Hid (L++[32]++D1++(Ce.rem l (j+1)++10::R)=T):=by
       refine ζ ?_;rw[<-HQ.out,<-HD1.out,Ce.OH O0 HX.out];simp
      clear hj0;have wO:=ζ (congrArg List.length MX.out);simp only[aar,abl,abU] at wO;obtain⟨b,o,xa,xc,rfl,c0,oL⟩:=Vw.out.later j9.out.low k l HK.out;rw[GZ.out] at c0;obtain⟨xb,xo,rfl,c1⟩:=oL j x HX.out;clear oL;have BM:(L:List UInt8).length+([32]:List UInt8).length<=140737488355328:=by have:=wO.out;have:=xX.out;(try simp only[abl,abU]);omega
      go_wp2_with (first|(at_builtin;refine cB rfl _ _ rfl _ (w.heap.size+1) _ _ [32] j9.out.nZ j9.out.size BM rfl _ rfl rfl ?_;refine aaj ?_));refine ζ ?_;intro x5 w5 qa qb;have hh:=(j9.out.later ((aae _ _).alloc (aad _) _)).grown qa qb;have fJ:Hid (eI w true (some ⟨b,o,none⟩) eo n ca 0 ce x5 (L++[32]) w5):=ζ (by first|exact hh|(simp only[aaR,abi,abm] at hh ⊢;exact hh));clear qa qb hh BM;clear v0 v1 v2 vf;obtain⟨v0,v1,v2,vf⟩:=fJ.out.cells;clear c0 c1;obtain⟨b',o',xa',ZO,e',c0,oL⟩:=Vw.out.later fJ.out.low k l HK.out;cases e';rw[GZ.out] at c0;obtain⟨ZP,W8,e2,c1⟩:=oL j x HX.out;cases e2;clear oL;have DI:(L++[32]:List UInt8).length+(D1:List UInt8).length<=140737488355328:=by have:=wO.out;have:=xX.out;(try simp only[aar,abl,abU]);omega
      go_wp2_with (first|(go_at_call 58;refine(zV.out _).mono ?_;rintro e y6 ⟨rfl,hb⟩;have G8:=ζ (fJ.out.later hb);clear hb v0 v1 v2 vf;obtain⟨v0,v1,v2,vf⟩:=G8.out.cells)|(at_builtin;refine dz rfl _ _ rfl _ (w.heap.size+1) _ _ D1 rfl rfl G8.out.nZ DI (by have:=G8.out.size;omega) ?_;refine aaj ?_));refine ζ ?_;intro x6 w6 qa qb;have hh:=G8.out.grown qa qb;have ot:Hid (eI w true (some ⟨b,o,none⟩) eo n ca 0 ce x6 (L++[32]++D1) w6):=ζ (by first|exact hh|(simp only[aaR,abi,abm] at hh ⊢;exact hh));clear qa qb hh DI;clear v0 v1 v2 vf;obtain⟨v0,v1,v2,vf⟩:=ot.out.cells;go_wp2;go_roundw
      case rel=>exact⟨j+1,_,_,by omega,by go_num,rfl,ot.out,by rw[<-MX.out];try simp⟩
      case measure=>simp[intOf];omega
    .have aa6:¬((j:Int)<(q:Int)):=by omega
     obtain rfl:j=q:=by omega
     have hz:Ce.rem l j=[]:=by have:=Ce.QK l;rw[GZ.out] at this;exact this
     rw[hz,abi] at HQ;have wO:=ζ (congrArg List.length HQ.out);simp only[aar,abl] at wO;obtain⟨b,o,xa,xc,rfl,c0,-⟩:=Vw.out.later j9.out.low k l HK.out;rw[GZ.out] at c0;clear hz;have RU:(L:List UInt8).length+([10]:List UInt8).length<=140737488355328:=by have:=wO.out;have:=xX.out;(try simp only[abl,abU]);omega
     go_wp2_with (first|(at_builtin;refine cB rfl _ _ rfl _ (w.heap.size+1) _ _ [10] j9.out.nZ j9.out.size RU rfl _ rfl rfl ?_;refine aaj ?_));refine ζ ?_;intro x7 w7 qa qb;have hh:=(j9.out.later ((aae _ _).alloc (aad _) _)).grown qa qb;have z8:Hid (eI w true (some ⟨b,o,none⟩) eo n ca 0 ce x7 (L++[10]) w7):=ζ (by first|exact hh|(simp only[aaR,abi,abm] at hh ⊢;exact hh));clear qa qb hh RU;clear v0 v1 v2 vf;obtain⟨v0,v1,v2,vf⟩:=z8.out.cells;go_wp2;go_roundw
     case rel=>exact⟨k+1,_,_,by omega,by go_num,rfl,z8.out,by rw[HR.out,<-HQ.out];try simp⟩
     case measure=>simp[intOf];omega
  .have aQ:¬((k:Int)<(n:Int)):=by omega
   obtain rfl:k=n:=by omega
   have hz:ls.drop k=[]:=adl (by have:=HM.out;omega);rw[hz] at HQ;have YA:L=T:=by have:=HQ.out;simpa using this
   subst YA;obtain⟨g,vc,rfl,kc⟩:=j9.out.conv (by
    rw[<-M8.out];simp)
   clear hz;obtain⟨N,hN⟩:∃N,L.length=N:=⟨_,rfl⟩;have HN:=ζ hN;have HKC:=ζ kc;have Te:=xX.out;rw[hN] at kc Te ⊢;clear hN;by_cases hbig:33554432<N
   .have gY:(33554432:Int)<(N:Int):=by omega
    clear kc;go_wp2;go_ret2;exact⟨.inl ⟨by have:=HN.out;omega,rfl⟩,j9.out.low⟩
   .have gY:¬((33554432:Int)<(N:Int)):=by omega
    go_wp2;go_ret2;exact⟨.inr ⟨by have:=HN.out;omega,rfl⟩,j9.out.low⟩
end
section
open Go.RowKit
theorem tB {w:World} {v:Value} {c:Ce.Cert} {ao eo:Option Addr} {ca ce:Nat} (h:Ce.iD w v c ao eo ca ce) (hf:Ce.Fits c):
 Calls Tryz.prog 30 #[v] w fun e w'=>sr c e/\Below w.heap.size w w':=by
 rw[h.val];by_cases hg:Ce.good c
 .suffices hh:Calls Tryz.prog 30 #[.agg #[.bool c.pl,.slice ao c.ar.length ca,.slice eo c.es.length ce]] w fun e w'=>Qd (Ce.eA c) e/\Below w.heap.size w w' from
   hh.mono fun e w' h=>⟨⟨fun hn=>absurd hg hn,fun _=>h.1⟩,h.2⟩
  have ht:=hf.txt hg;have ha:=h.ar;have he:=h.es;have hr:=hf.row;clear h hf;obtain⟨pl,ar,es⟩:=c;unfold Ce.good at hg;cases pl with
  |true=>
   rw[if_pos rfl] at hg;obtain⟨h0,h1⟩:=hg;dsimp only at h0 ha hr;subst h0;exact zB ha rfl h1 hr _ rfl ht
  |false=>
   rw[if_neg (by simp)] at hg;obtain⟨h0,h1⟩:=hg;dsimp only at h0 he;subst h0;exact zC he rfl h1 _ rfl ht
 .exact(Dg h.ar h.es hf.ar hf.es hf.row hg).mono fun e w' h=>⟨⟨fun _=>h.1,fun hn=>absurd hn hg⟩,h.2⟩
end
section
open Go.RowKit Go.Sort
def Co.iso (m:Nat) (es:List (Int×Int)):Nat:=Co.aA (fun v=> !Co.met es v) m
def KA (n:Int) (es:List (Int×Int)) (w:World) (e:Ending) (w':World):Prop:=
 ((∃m:Nat,n=(m:Int)/\Si.Val n es/\e= .returned (.tuple #[.int .i64 (Co.iso m es:Int),.int .i64 0]))\/(Si.valid n es=false/\e= .returned (.tuple #[.int .i64 0,.int .i64 1])))/\Below w.heap.size w w'
end
section
open Go.Proofs.Tryz
open Go.RowKit Go.Sort
theorem aF.congr {w:World} {g n:Nat} {f f':Nat->Bool} (h:aF w g n f) (e:∀i,i<n->f i=f' i):aF w g n f':=by
 unfold aF at h ⊢;rw[h]
 congr 2
 unfold Co.bools
 congr 1
 exact abT fun i hi=>by rw[e i (aaJ.1 hi)]
theorem AV (n:Int) (ao:Option Addr) (cap:Nat) (es:List (Int×Int)) (w:World) (he:ah w ao es) (hl:es.length<=4611686018427387904):
 Calls prog 90 #[az n ao es.length cap] w (KA n es w):=by
 obtain⟨i0,hi,hz0,hz1,hz2⟩:=info_parts Tryz.nR;have HE:=ζ he;have jC:=fun W (hb:Below w.heap.size w W)=>eW n ao cap es W (he.later hb) hl
 unfold az at jC ⊢;have cS:=ζ jC;clear he jC;have dJ:Below w.heap.size w (w.alloc (.cells #[.int .i64 n,.slice ao es.length cap] 24)):=(aae _ _).alloc (aad _) _;have bR:=ζ dJ;clear dJ;cases hv:Si.valid n es with
 |false=>
  rw[hv] at cS;have HV:=ζ hv;clear hv;go_enter func90,ntmps90;go_wp2_with (go_at_call 25;refine(cS.out _ bR.out).mono ?_;rintro e w' ⟨rfl,hb⟩;refine aaj ?_);refine ζ ?_;have HB:=ζ (bR.out.trans (hb.mono bR.out.size));clear hb;go_wp2;go_ret2;exact⟨.inr ⟨HV.out,rfl⟩,HB.out⟩
 |true=>
  rw[hv] at cS;have hval:=Si.aK.1 hv;have bQ:=hval.few;have hlo:=hval.lo;have hhi:=hval.hi;obtain⟨m,rfl⟩:∃m:Nat,n=(m:Int):=⟨n.toNat,by omega⟩;have bY:=ζ hval;have hmk:∀W,(Instr.makeSlice 237 (.int .i64 (m:Int)) (.int .i64 (m:Int))).run prog W= .ok (.slice (some ⟨W.heap.size,0,none⟩) m m) (W.alloc (.cells (madeCells #[.bool false] m) 4)):=fun W=>by
   have:=run_make (P:=prog) W 237 4 i0 (.bool false) Tryz.underlying237 hi hz0 .i64 .i64 (m:Int) (m:Int) (by omega) (acE _) (by rw[hz2];omega) (by omega);rw[this,hz1];simp[Value.cells]
  clear hval hv;go_enter func90,ntmps90;go_wp2_with (go_at_call 25;refine(cS.out _ bR.out).mono ?_;rintro e w1 ⟨rfl,hb⟩;refine aaj ?_);refine ζ ?_;have hG:w1.heap[w.heap.size]? =some (.cells #[.int .i64 m,.slice ao es.length cap] 24 (0,0)):=(hb.block _ (by simp)).trans (heap_alloc_new w _);have aI:=ζ (bR.out.trans (hb.mono bR.out.size));have HG:=ζ hG;have sG:=lt_of_block hG;obtain⟨g0,g1,-⟩:=af hG;have Eb:Hid (aF (w1.alloc (.cells (madeCells #[.bool false] m) 4)) w1.heap.size m (fun v=>Co.met (es.take 0) v)):=jV rfl m;have j4:=ζ ((aaF w1 (.cells (madeCells #[.bool false] m) 4) w.heap.size sG).trans hG);have aH:=ζ (aI.out.alloc aI.out.size (.cells (madeCells #[.bool false] m) 4));clear hb hG cS;go_wp2;clear hmk g0 g1;go_loopw [5] (fun cv wr=>∃i:Nat,i<=es.length/\cv= .int .i64 (i:Int)/\aF wr w1.heap.size m (fun v=>Co.met (es.take i) v)/\wr.heap[w.heap.size]? =some (.cells #[.int .i64 m,.slice ao es.length cap] 24 (0,0))/\Below w.heap.size w wr) (fun cv _=>es.length-(intOf cv).toNat)
  case atStart=>exact⟨0,aax _,rfl,Eb.out,j4.out,aH.out⟩
  case round=>
   obtain⟨i,hi',rfl,hI,hg,hb⟩:=hrel;have HI:=ζ hI;have HGr:=ζ hg;have HB:=ζ hb;have hsb:=hb.size;have hsI:=hI.lt;obtain⟨x0,x1,-⟩:=af hg;have hs1:=aI.out.size;by_cases hlt:i<es.length
   .have aQ:(i:Int)<(es.length:Int):=by omega
    have VW:(0:Int)<=(i:Int):=by omega
    obtain⟨q,hq⟩:∃q,es[i]? =some q:=⟨_,aac hlt⟩;have hok:=bY.out.each i q hq;unfold Si.ok at hok;obtain⟨b,o,rfl,c0,c1⟩:=(HE.out.later hb) i q hq;have cm:b<w.heap.size:=by
     obtain⟨b',o',e',h0,_⟩:=HE.out i q hq;cases e';exact block_lt_of_cell h0
    obtain⟨qu,qv⟩:=q;dsimp only at c0 c1 hok;obtain⟨u,rfl⟩:∃u:Nat,qu=(u:Int):=⟨qu.toNat,by omega⟩;obtain⟨v,rfl⟩:∃v:Nat,qv=(v:Int):=⟨qv.toNat,by omega⟩;have Dy:u<m:=by omega
    have uk:v<m:=by omega
    have u0:(0:Int)<=(u:Int):=by omega
    have u1:(u:Int)<(m:Int):=by omega
    have v0:(0:Int)<=(v:Int):=by omega
    have v1:(v:Int)<(m:Int):=by omega
    have cu:=hI.cell Dy;have cf:=hI.free;have n1:=hI.set u true;have cv:=n1.cell uk;have cvf:=n1.free;have n2:=n1.set v true;have cw:=hI.cell uk;have Jw:w.heap.size≠w1.heap.size:=by omega
    have Yk:b≠w1.heap.size:=by omega
    have k1:(wr.setCell ⟨w1.heap.size,u,none⟩ (.bool true)).cell? ⟨w.heap.size,1,none⟩=some (.slice (some ⟨b,o,none⟩) es.length cap):=by
     rw[<-x1];exact abJ (w:=wr) (a:=⟨w.heap.size,1,none⟩) (heap_setCell_other wr ⟨w1.heap.size,u,none⟩ w.heap.size _ Jw)
    have k2:(wr.setCell ⟨w1.heap.size,u,none⟩ (.bool true)).cell? ⟨b,o+i*2+1,none⟩=some (.int .i64 (v:Int)):=by
     rw[<-c1];exact abJ (w:=wr) (a:=⟨b,o+i*2+1,none⟩) (heap_setCell_other wr ⟨w1.heap.size,u,none⟩ b _ Yk)
    have wP:Hid (aF ((wr.setCell ⟨w1.heap.size,u,none⟩ (.bool true)).setCell ⟨w1.heap.size,v,none⟩ (.bool true)) w1.heap.size m (fun x=>Co.met (es.take (i+1)) x)):=by
     refine n2.congr (fun j hj=> ?_);rw[Si.gW hq,Co.OX];by_cases ev:j=v
     .subst ev
      rw[Co.eY];simp
     .rw[Co.dr _ ev]
      by_cases eu:j=u
      .subst eu
       rw[Co.eY];simp
      .rw[Co.dr _ eu]
       have e1:((u:Int)==(j:Int))=false:=by simp;omega
       have e2:((v:Int)==(j:Int))=false:=by simp;omega
       rw[e1,e2];simp
    have cZ:Hid (((wr.setCell ⟨w1.heap.size,u,none⟩ (.bool true)).setCell ⟨w1.heap.size,v,none⟩ (.bool true)).heap[w.heap.size]? =some (.cells #[.int .i64 m,.slice (some ⟨b,o,none⟩) es.length cap] 24 (0,0))):=by
     show _=_;rw[heap_setCell_other _ ⟨w1.heap.size,v,none⟩ w.heap.size _ Jw,heap_setCell_other _ ⟨w1.heap.size,u,none⟩ w.heap.size _ Jw];exact hg
    have aB:=ζ ((hb.setCell (p:=⟨w1.heap.size,u,none⟩) hs1 (.bool true)).setCell (p:=⟨w1.heap.size,v,none⟩) hs1 (.bool true));clear hI hg hb hq hok n1 n2;go_wp2;go_roundw
    case rel=>exact⟨i+1,by omega,by go_num,wP.out,cZ.out,aB.out⟩
    case measure=>simp[intOf];omega
   .have hd:¬((i:Int)<(es.length:Int)):=by omega
    obtain⟨w0,rfl⟩:∃w0,w0=wr:=⟨wr,rfl⟩;rw[aaX (by omega)] at HI;clear hI hg hb;go_wp2;go_loopw [6,7] (fun s c wr=>∃k:Nat,k<=m/\c= .int .i64 (k:Int)/\s= .int .i64 (Co.aA (fun v=> !Co.met es v) k:Int)/\wr=w0) (fun _ c _=>m-(intOf c).toNat)
    case atStart=>exact⟨0,aax _,rfl,rfl,rfl⟩
    case round=>
     obtain⟨k,hk,rfl,rfl,hwr⟩:=hrel;obtain rfl:=hwr.symm;clear hwr;have hcl:=Co.bF (fun v=> !Co.met es v) k;by_cases hkn:k<m
     .have hk0:(0:Int)<=(k:Int):=by omega
      have hk1:(k:Int)<(m:Int):=by omega
      have c0:=HI.out.cell hkn;have jD:Co.aA (fun v=> !Co.met es v) (k+1)=Co.aA (fun v=> !Co.met es v) k+(if !Co.met es k then 1 else 0):=rfl;obtain⟨z,hz⟩:∃z,Co.aA (fun v=> !Co.met es v) k=z:=⟨_,rfl⟩;rw[hz] at hcl jD ⊢;clear hz;cases BG:Co.met es k with
      |false=>
       rw[BG] at jD c0;have pY:=ζ jD;clear jD BG;go_wp2;go_roundw
       case rel=>exact⟨k+1,by omega,by go_num,by rw[pY.out];go_num,by first|rfl|trivial⟩
       case measure=>simp[intOf];omega
      |true=>
       rw[BG] at jD c0;have pY:=ζ jD;clear jD BG;go_wp2;go_roundw
       case rel=>exact⟨k+1,by omega,by go_num,by rw[pY.out];go_num,by first|rfl|trivial⟩
       case measure=>simp[intOf];omega
     .have hd2:¬((k:Int)<(m:Int)):=by omega
      obtain rfl:k=m:=by omega
      go_wp2;go_ret2;exact⟨.inl ⟨k,rfl,bY.out,rfl⟩,HB.out⟩
end
section
open Go.Proofs.Tryz
open Go.RowKit Go.Sort
theorem kG (n:Nat) (ao:Option Addr) (ca:Nat) (es:List (Int×Int)) (j:Nat) (w:World) (he:ah w ao es) (hv:Si.Val n es) (hj:j<2*es.length):
 Calls prog 100 #[.agg #[.int .i64 (n:Int),.slice ao es.length ca],.int .i64 (j:Int)] w fun e w'=>e= .returned (.int .i64 (Cs.fr es j:Int))/\Below w.heap.size w w':=by
 have hb0:Below w.heap.size w (w.alloc (.cells #[.int .i64 (n:Int),.slice ao es.length ca] 24)):=(aae _ _).alloc (aad _) _;have bQ:=hv.few;obtain⟨e,hee,hok,hpar⟩:=oP hv hj;obtain⟨b,o,rfl,c0,c1⟩:=(he.later hb0) (j/2) e hee;obtain⟨jh,uu⟩:∃jh,jh=j/2:=⟨_,rfl⟩;rw[<-uu] at c0 c1 hee;have hj0:(0:Int)<=(j:Int):=by omega
 have htd:(j:Int).tdiv 2=(jh:Int):=by rw[abK hj0];omega
 have aaw:(j:Int)/2=(jh:Int):=by omega
 have hjd:j/2=jh:=uu.symm;have hj2:(0:Int)<=(jh:Int):=by omega
 have X4:(jh:Int)<(es.length:Int):=by omega
 have aH:=ζ hb0;rcases hpar with ⟨hm,hf,ht⟩|⟨hm,hf,ht⟩
 .have hm1:(j:Int).tmod 2=0:=by rw[abS hj0];omega
  have hm2:(j:Int)%2=0:=by omega
  rw[hf];clear he hv hok hee hb0 hf ht uu hm;go_enter func100,ntmps100;go_wp2;go_ret;exact⟨rfl,aH.out⟩
 .have hm1:(j:Int).tmod 2=1:=by rw[abS hj0];omega
  have hm2:(j:Int)%2=1:=by omega
  rw[hf];clear he hv hok hee hb0 hf ht uu hm;go_enter func100,ntmps100;go_wp2;go_ret;exact⟨rfl,aH.out⟩
theorem AW (n:Nat) (ao:Option Addr) (ca:Nat) (es:List (Int×Int)) (h:Int) (v:Nat) (w:World) (he:ah w ao es) (hv:Si.Val n es):
 Calls prog 286 #[.agg #[.int .i64 (n:Int),.slice ao es.length ca],.int .i64 h,.int .i64 (v:Int)] w fun e w'=>e= .returned (.bool (Ro.lv es h v))/\Below w.heap.size w w':=by
 have hb0:Below w.heap.size w (w.alloc (.cells #[.int .i64 (n:Int),.slice ao es.length ca] 24)):=(aae _ _).alloc (aad _) _;have bQ:=hv.few;have hin:=fun j hj=>kG n ao ca es j _ (he.later hb0) hv hj
 have yg:=ζ hin;have aH:=ζ hb0;clear he hv hb0 hin;have hmul:IntKind.i64.wrap (2*(es.length:Int))=2*(es.length:Int):=by rw[aam];omega
 by_cases h0:0<=h
 .by_cases h1:h<2*(es.length:Int)
  .obtain⟨j,rfl⟩:∃j:Nat,h=(j:Int):=⟨h.toNat,by omega⟩
   have hj:j<2*es.length:=by omega
   have hlv:Ro.lv es (j:Int) v=((Cs.fr es j:Int)==(v:Int)):=by
    unfold Ro.lv;rw[Cs.oV hj,decide_eq_true h0,decide_eq_true h1];rfl
   rw[hlv];have HJ:=ζ (yg.out j hj);clear hlv hmul;go_enter func286,ntmps286;go_wp2_with (go_at_call 100;refine HJ.out.mono ?_;rintro e w1 ⟨rfl,hb1⟩);go_ret;exact⟨rfl,aH.out.trans (hb1.mono aH.out.size)⟩
  .have hlv:Ro.lv es h v=false:=by simp[Ro.lv,h1]
   rw[hlv];clear hlv;go_enter func286,ntmps286;go_wp2;go_ret;exact⟨rfl,aH.out⟩
 .have hlv:Ro.lv es h v=false:=by simp[Ro.lv,h0]
  rw[hlv];clear hlv;go_enter func286,ntmps286;go_wp2;go_ret;exact⟨rfl,aH.out⟩
end
section
open Go.Proofs.Tryz
open Go.RowKit Go.Sort
theorem yw (ao:Option Addr) (ca n k:Nat) (l:List Int) (x:Int) (w:World) (hn:l.length=n) (ha:aU w ao l) (hk:k<=n) (hl:n<=4611686018427387904):
 Calls prog 60 #[.slice ao n ca,.int .i64 (k:Int),.int .i64 x] w fun e w'=>e= .returned (.bool (decide (x∈l.take k)))/\w'=w:=by
 have HA:=ζ ha;have HN:=ζ hn;clear ha hn;go_enter func60,ntmps60;go_wp2;go_loopw [7] (fun c wr=>∃i:Nat,i<=k/\c= .int .i64 i/\x∉l.take i/\wr=w) (fun c _=>k-(intOf c).toNat)
 case atStart=>exact⟨0,aax _,rfl,by simp,rfl⟩
 case round=>
  obtain⟨i,hi,rfl,hno,hw⟩:=hrel;obtain rfl:=hw.symm;have cG:=ζ hno;clear hno hw;by_cases hlt:i<k
  .have aQ:(i:Int)<(k:Int):=by omega
   have mj:(0:Int)<=(i:Int):=by omega
   have hin:(i:Int)<(n:Int):=by omega
   obtain⟨y,hy⟩:∃y,l[i]? =some y:=⟨_,aac (by have:=HN.out;omega)⟩;obtain⟨b,o,rfl,c0⟩:=HA.out i y hy;have HY:=ζ hy;clear hy;by_cases e1:y=x
   .have t1:(y==x)=true:=by simp[e1]
    have HV:=ζ (show decide (x∈l.take k)=true by
     rw[decide_eq_true_eq,<-e1];exact aai (i:=i) (by rw[aci,if_pos hlt];exact HY.out))
    clear e1;go_wp2;go_ret;exact⟨by rw[HV.out];rfl,rfl⟩
   .have t1:(y==x)=false:=by simp[e1]
    have acT:=ζ (show x∉l.take (i+1) by
     rw[Ro.dw HY.out,abG,abg];rintro(h|h)
     .exact cG.out h
     .exact e1 h.symm)
    clear e1;go_wp2;go_roundw
    case rel=>exact⟨i+1,by omega,by go_num,acT.out,by first|rfl|trivial⟩
    case measure=>simp[intOf];omega
  .have aQ:¬(i:Int)<(k:Int):=by omega
   obtain rfl:i=k:=by omega
   have HV:=ζ (show decide (x∈l.take i)=false by rw[decide_eq_false_iff_not];exact cG.out);go_wp2;go_ret;exact⟨by rw[HV.out];rfl,rfl⟩
theorem qw (n:Nat) (ao:Option Addr) (ca:Nat) (es:List (Int×Int)) (v:Nat) (w:World) (he:ah w ao es) (hv:Si.Val n es):
 Calls prog 61 #[.agg #[.int .i64 (n:Int),.slice ao es.length ca],.int .i64 (v:Int)] w fun e w'=>e= .returned (.int .i64 (Ro.gG es v:Int))/\Below w.heap.size w w':=by
 have hb0:Below w.heap.size w (w.alloc (.cells #[.int .i64 (n:Int),.slice ao es.length ca] 24)):=(aae _ _).alloc (aad _) _;have bQ:=hv.few;have HE:=ζ he;have bY:=ζ hv;have aH:=ζ hb0;have j4:Hid ((w.alloc (.cells #[.int .i64 (n:Int),.slice ao es.length ca] 24)).heap[w.heap.size]? =some (.cells #[.int .i64 (n:Int),.slice ao es.length ca] 24 (0,0))):=heap_alloc_new w _;have hmul:IntKind.i64.wrap (2*(es.length:Int))=2*(es.length:Int):=by rw[aam];omega
 clear he hv hb0;go_enter func61,ntmps61;go_wp2;go_loopw [5,6] (fun c5 c6 wr=>∃j:Nat,j<=2*es.length/\c6= .int .i64 (j:Int)/\c5= .int .i64 ((Cs.out es v j).length:Int)/\wr.heap[w.heap.size]? =some (.cells #[.int .i64 (n:Int),.slice ao es.length ca] 24 (0,0))/\Below w.heap.size w wr) (fun _ c6 _=>2*es.length-(intOf c6).toNat)
 case atStart=>exact⟨0,aax _,rfl,rfl,j4.out,aH.out⟩
 case round=>
  obtain⟨j,hj,rfl,rfl,hg,hb⟩:=hrel;obtain⟨g0,g1,-⟩:=af hg;have HG:=ζ hg;have HB:=ζ hb;have hol:=Cs.qx (es:=es) (v:=v) j;have hos:=Cs.eB (es:=es) (v:=v) j;have HOS:=ζ hos;clear hg hb hos;by_cases hlt:j<2*es.length
  .have aQ:(j:Int)<2*(es.length:Int):=by omega
   have HF:=ζ (kG n ao ca es j wr (HE.out.later HB.out) bY.out hlt);by_cases hf:Cs.fr es j=v
   .have t1:((Cs.fr es j:Int)==(v:Int))=true:=by simp;omega
    have HO:Hid ((Cs.out es v (j+1)).length=(Cs.out es v j).length+1):=by have:=HOS.out;rw[if_pos hf] at this;exact this
    clear hf;go_wp2_with (go_at_call 100;refine HF.out.mono ?_;rintro e w2 ⟨rfl,hb2⟩;refine aaj ?_);refine ζ ?_;have cZ:=ζ ((hb2.block _ (lt_of_block HG.out)).trans HG.out);have aB:=ζ (HB.out.trans (hb2.mono HB.out.size));clear hb2 g0 g1;go_wp2;go_roundw
    case rel=>exact⟨j+1,by omega,by go_num,by rw[HO.out];go_num,cZ.out,aB.out⟩
    case measure=>simp[intOf];omega
   .have t1:((Cs.fr es j:Int)==(v:Int))=false:=by simp;omega
    have HO:Hid ((Cs.out es v (j+1)).length=(Cs.out es v j).length):=by have:=HOS.out;rw[if_neg hf] at this;exact this
    clear hf;go_wp2_with (go_at_call 100;refine HF.out.mono ?_;rintro e w2 ⟨rfl,hb2⟩;refine aaj ?_);refine ζ ?_;have cZ:=ζ ((hb2.block _ (lt_of_block HG.out)).trans HG.out);have aB:=ζ (HB.out.trans (hb2.mono HB.out.size));clear hb2 g0 g1;go_wp2;go_roundw
    case rel=>exact⟨j+1,by omega,by go_num,by rw[HO.out],cZ.out,aB.out⟩
    case measure=>simp[intOf];omega
  .have aQ:¬(j:Int)<2*(es.length:Int):=by omega
   obtain rfl:j=2*es.length:=by omega
   go_wp2;go_ret;exact⟨rfl,HB.out⟩
end
end Go.Proofs.YtdbjpbjocmcpkaaGreatDoor
