import Derived.Shelf.LaysM
import Derived.Shelf.Lays
import Derived.Shelf.Strconv.AppendIntPublic10
import Derived.Shelf.Slices.Reverse
import Derived.Ground.NamesProg
import Derived.Test.YtdbjpbjocmcpkaaGreatDoorMj02
import Derived.Laws.IdiomStrings
set_option maxHeartbeats 4000000
set_option maxRecDepth 100000
namespace Go.Proofs
open Go.Shelf
def Tryz.Fq:Go.Shelf.Ren:=⟨fun|176=>76|249=>119|288=>171|283=>228|284=>229|285=>230|286=>231|129=>166|317=>266|318=>267|319=>268|320=>269|337=>292|338=>293|n=>n,fun|37=>35|2=>2|3=>3|53=>269|4=>4|9=>9|171=>329|0=>0|173=>331|212=>363|51=>267|5=>5|20=>20|213=>364|46=>194|232=>388|233=>389|n=>n,fun|17=>0|18=>1|19=>2|n=>n⟩
theorem Tryz.R2:Go.Proofs.LaysM.n176 Tryz.prog Tryz.Fq:={
 mixed:=by kernel_rfl
 f129:=Tryz.func166.trans (congrArg some (by kernel_rfl))
 f176:=Tryz.func76.trans (congrArg some (by kernel_rfl))
 f249:=Tryz.func119.trans (congrArg some (by kernel_rfl))
 f283:=Tryz.func228.trans (congrArg some (by kernel_rfl))
 f284:=Tryz.func229.trans (congrArg some (by kernel_rfl))
 f285:=Tryz.func230.trans (congrArg some (by kernel_rfl))
 f286:=Tryz.func231.trans (congrArg some (by kernel_rfl))
 f288:=Tryz.func171.trans (congrArg some (by kernel_rfl))
 f317:=Tryz.func266.trans (congrArg some (by kernel_rfl))
 f318:=Tryz.func267.trans (congrArg some (by kernel_rfl))
 f319:=Tryz.func268.trans (congrArg some (by kernel_rfl))
 f320:=Tryz.func269.trans (congrArg some (by kernel_rfl))
 f337:=Tryz.func292.trans (congrArg some (by kernel_rfl))
 f338:=Tryz.func293.trans (congrArg some (by kernel_rfl))
 t0:=Tryz.underlying0
 a0:=Tryz.isAgg0
 z0:=Tryz.sizeOf0
 v0:=Tryz.zeroValue0
 t2:=Tryz.underlying2
 a2:=Tryz.isAgg2
 z2:=Tryz.sizeOf2
 v2:=Tryz.zeroValue2
 t3:=Tryz.underlying3
 a3:=Tryz.isAgg3
 z3:=Tryz.sizeOf3
 v3:=Tryz.zeroValue3
 t4:=Tryz.underlying4
 a4:=Tryz.isAgg4
 z4:=Tryz.sizeOf4
 v4:=Tryz.zeroValue4
 t5:=Tryz.underlying5
 a5:=Tryz.isAgg5
 z5:=Tryz.sizeOf5
 v5:=Tryz.zeroValue5
 t9:=Tryz.underlying9
 a9:=Tryz.isAgg9
 z9:=Tryz.sizeOf9
 v9:=Tryz.zeroValue9
 t20:=Tryz.underlying20
 a20:=Tryz.isAgg20
 z20:=Tryz.sizeOf20
 v20:=Tryz.zeroValue20
 t37:=Tryz.underlying35
 a37:=Tryz.isAgg35
 z37:=Tryz.sizeOf35
 v37:=Tryz.zeroValue35
 t46:=Tryz.underlying194
 a46:=Tryz.isAgg194
 z46:=Tryz.sizeOf194
 v46:=Tryz.zeroValue194
 t51:=Tryz.underlying267
 a51:=Tryz.isAgg267
 z51:=Tryz.sizeOf267
 v51:=Tryz.zeroValue267
 t53:=Tryz.underlying269
 a53:=Tryz.isAgg269
 z53:=Tryz.sizeOf269
 v53:=Tryz.zeroValue269
 t171:=Tryz.underlying329
 a171:=Tryz.isAgg329
 z171:=Tryz.sizeOf329
 v171:=Tryz.zeroValue329
 t173:=Tryz.underlying331
 a173:=Tryz.isAgg331
 z173:=Tryz.sizeOf331
 v173:=Tryz.zeroValue331
 t212:=Tryz.underlying363
 a212:=Tryz.isAgg363
 z212:=Tryz.sizeOf363
 v212:=Tryz.zeroValue363
 t213:=Tryz.underlying364
 a213:=Tryz.isAgg364
 z213:=Tryz.sizeOf364
 t232:=Tryz.underlying388
 a232:=Tryz.isAgg388
 z232:=Tryz.sizeOf388
 v232:=Tryz.zeroValue388
 t233:=Tryz.underlying389
 a233:=Tryz.isAgg389
 z233:=Tryz.sizeOf389
 v233:=Tryz.zeroValue389
 g17:=by kernel_rfl
 g18:=by kernel_rfl
 g19:=by kernel_rfl
 i0:=by kernel_rfl
 i2:=by kernel_rfl
 i3:=by kernel_rfl
 i4:=by kernel_rfl
 i5:=by kernel_rfl
 i9:=by kernel_rfl
 i20:=by kernel_rfl
 i37:=by kernel_rfl
 i46:=by kernel_rfl
 i51:=by kernel_rfl
 i53:=by kernel_rfl
 i171:=by kernel_rfl
 i173:=by kernel_rfl
 i212:=by kernel_rfl
 i232:=by kernel_rfl
 i233:=by kernel_rfl
 m17:=by kernel_rfl
 m18:=by kernel_rfl
 m19:=by kernel_rfl }
theorem Tryz.mW (B n:Nat) (i:Int) (h0: -9223372036854775808≤i) (h1:i≤9223372036854775807) (sv:Value) (xs:List Value) (w:World) (hown:w.ownsRow B 5 1 sv n xs) (hBw:B≤w.heap.size) (hlim:n+21≤140737488355328)
 (htab:Lib.TabBelow Tryz.prog B w "internal/strconv.uint64pow10" .u64 Lib.pow10Tab):
 Calls Tryz.prog 76 #[sv,.int .i64 i,.int .i64 10] w fun e w'=>∃v',e= .returned v'∧w'.ownsRow B 5 1 v' (n+(Lib.itoa i).length) (xs++Lib.byteCells (Lib.itoa i))∧RowKit.Below B w w'∧Lib.OthersKept 5 none w w':=Any.strconv_AppendInt_10 Tryz.R2 B n i h0 h1 sv xs w hown hBw hlim htab
def Tryz.I2:Go.Shelf.Ren:=⟨fun|112=>93|n=>n,fun|28=>55|3=>3|4=>4|0=>0|n=>n,fun|n=>n⟩
theorem Tryz.Us:Go.Proofs.Lays.n112 Tryz.prog Tryz.I2:={
 mixed:=by kernel_rfl
 f112:=Tryz.func93.trans (congrArg some (by kernel_rfl))
 t0:=Tryz.underlying0
 a0:=Tryz.isAgg0
 z0:=Tryz.sizeOf0
 v0:=Tryz.zeroValue0
 t3:=Tryz.underlying3
 a3:=Tryz.isAgg3
 z3:=Tryz.sizeOf3
 v3:=Tryz.zeroValue3
 t4:=Tryz.underlying4
 a4:=Tryz.isAgg4
 z4:=Tryz.sizeOf4
 v4:=Tryz.zeroValue4
 t28:=Tryz.underlying55
 a28:=Tryz.isAgg55
 z28:=Tryz.sizeOf55
 v28:=Tryz.zeroValue55 }
theorem Tryz.slices_Reverse_int (blk off cap:Nat) (zs:List Int) (w:World) (hH:Sort.Holds (Value.int .i64) w blk off zs.toArray) (hsz:zs.length≤9223372036854775807):
 Calls Tryz.prog 93 #[.slice (some ⟨blk,off,none⟩) zs.length cap] w fun e w'=>
  e= .returned (.tuple #[])∧∃n,w'=Sort.putRow (Value.int .i64) (Sort.ahead w n) blk off zs.reverse.toArray:=Any.slices_Reverse_int Tryz.Us blk off cap zs w hH hsz
end Go.Proofs
namespace Go.Proofs.YtdbjpbjocmcpkaaGreatDoor
section
open Go.Proofs.Tryz
open Go.RowKit
def lC (w:World):Prop:=Lib.TabIs prog w "internal/strconv.uint64pow10" .u64 Lib.pow10Tab
def fB (z:Nat->Int):Nat->List UInt8
 |0=>[]
 |k+1=>(if 0<k then fB z k++[32] else fB z k)++Lib.itoa (z k)
theorem sx (z:Nat->Int) (n:Nat) (hz:∀i,i<n->-9223372036854775808<=z i/\z i<=9223372036854775807):∀k,k<=n->(fB z k).length<=22*k
 |0,_=>by simp[fB]
 |k+1,hk=>by
  have ih:=sx z n hz k (by omega);have:=ad1 (z k) (hz k (by omega)).1 (hz k (by omega)).2;simp only[fB];by_cases h:0<k
  .rw[if_pos h];simp;omega
  .rw[if_neg h];simp;omega
def tC (w:World) (ao:Option Addr) (n:Nat) (z:Nat->Int):Prop:=
 ∀i,i<n->(-9223372036854775808<=z i/\z i<=9223372036854775807)/\∃tb to,ao=some ⟨tb,to,none⟩/\w.cell? ⟨tb,to+i,none⟩=some (.int .i64 (z i))
theorem tC.later {w w':World} {ao:Option Addr} {n:Nat} {z:Nat->Int} (h:tC w ao n z) (hg:Below w.heap.size w w'):tC w' ao n z:=by
 intro i hi;obtain⟨hb,tb,to,e,hc⟩:=h i hi;exact⟨hb,tb,to,e,(hg.cell (p:=⟨tb,to+i,none⟩) (block_lt_of_cell hc)).trans hc⟩
theorem Tryz.Sm:(prog.info? 5).map (fun i=>(i.zero,i.size,i.bytes))=some (some (.int .u8 0),1,1):=by kernel_rfl
theorem KT (W:World) (v:Value) (e:TypeId):∀j u,[v][j]? =some u->(W.alloc (.cells #[v] e)).cell? ((⟨W.heap.size,0,none⟩:Addr).add j)=some u:=by
 intro j u' hj
 match j,hj with
 |0,hj=>simp at hj;subst hj;simp[Addr.add]
theorem IU (ao:Option Addr) (n cap:Nat) (z:Nat->Int) (w:World) (hz:tC w ao n z) (hn:n<=100000000) (ht:lC w):
 Calls prog 39 #[.slice ao n cap] w fun e w'=>e= .returned (.string ⟨(fB z n++[10]).toArray⟩)/\Below w.heap.size w w':=by
 obtain⟨i0,hi,hz0,hz1,hz2⟩:=info_parts Tryz.Sm;have hT:=adC ht;have HL:=ζ (sx z n (fun i hi=>(hz i hi).1));have HZ:=ζ hz;have HT:=ζ hT;clear hz ht hT;go_enter func39,ntmps39;go_wp2;go_loopw [3,8] (fun v c wr=>∃k:Nat,k<=n/\c= .int .i64 k/\wr.ownsRow w.heap.size 5 1 v (fB z k).length (Lib.byteCells (fB z k))/\Below w.heap.size w wr) (fun _ c _=>n-(intOf c).toNat)
 case atStart=>exact⟨0,aaR _,rfl,acG _ _ _ _,aaG _ _⟩
 case round=>
  obtain⟨k,hk,rfl,hown,hb⟩:=hrel;have eB:=HL.out k hk;have hBw:=hb.size;by_cases hlt:k<n
  .have aP:(k:Int)<(n:Int):=by omega
   obtain⟨⟨b0,b1⟩,tb,to,rfl,cq⟩:=(HZ.out.later hb) k hlt;have HS:=ζ (show fB z (k+1)=(if 0<k then fB z k++[32] else fB z k)++Lib.itoa (z k) from rfl);generalize fB z k=L at*;have HC:=ζ cq;by_cases h0:0<k
   .have h0i:(0:Int)<(k:Int):=by omega
    go_wp2_with (at_builtin;refine wpList_append_own _ rfl _ _ 35 rfl w.heap.size 5 i0 (.int .u8 0) 1 1 Tryz.underlying35 hi hz0 hz1 hz2 rfl (by decide) _ _ _ rfl (hown.alloc _) ⟨wr.heap.size,0,none⟩ 1 1 [.int .u8 32] rfl rfl (KT _ _ _) (by intro u' rK;simp at rK;subst rK;rfl) (by unfold maxLen;omega) (by omega) (by simp;omega) ?_;refine aaI ?_);refine ζ ?_;intro v1 w1 hown1 hg1 _;have hb1:Below w.heap.size w w1:=(hb.alloc hBw _).grown hg1 (by simp;omega) (fun q hq=>(hown.lt q hq).1);go_wp2_with (go_at_call 76;refine(Tryz.mW w.heap.size (L.length+1) (z k) b0 b1 v1 _ w1 hown1 hb1.size (by omega) (HT.out.on hb1)).mono ?_;rintro e w2 ⟨v2,rfl,hown2,hb2,-⟩;refine aaI ?_);refine ζ ?_;have VA:=hb1.trans hb2;clear hown1 hg1 hb1 hb2 cq;go_wp2;go_roundw
    case rel=>
     refine⟨k+1,by omega,by go_num,?_,VA⟩;have e1:(L++[32]++Lib.itoa (z k)).length=L.length+1+(Lib.itoa (z k)).length:=by simp;omega
     have e2:Lib.byteCells (L++[32]++Lib.itoa (z k))=Lib.byteCells L++[.int .u8 32]++Lib.byteCells (Lib.itoa (z k)):=by simp[Lib.byteCells]
     rw[HS.out,if_pos h0,e1,e2];exact hown2
    case measure=>simp[intOf];omega
   .have h0i:¬((0:Int)<(k:Int)):=by omega
    go_wp2_with (go_at_call 76;refine(Tryz.mW w.heap.size L.length (z k) b0 b1 _ _ wr hown hBw (by omega) (HT.out.on hb)).mono ?_;rintro e w2 ⟨v2,rfl,hown2,hb2,-⟩;refine aaI ?_);refine ζ ?_;have VA:=hb.trans hb2;clear hb2 cq;go_wp2;go_roundw
    case rel=>
     refine⟨k+1,by omega,by go_num,?_,VA⟩;rw[HS.out,if_neg h0];simpa[Lib.byteCells] using hown2
    case measure=>simp[intOf];omega
  .have hd:¬((k:Int)<(n:Int)):=by omega
   have hkn:k=n:=by omega
   subst hkn;obtain⟨L,hL⟩:∃L,L=fB z k:=⟨_,rfl⟩;rw[<-hL] at hown eB;have tJ:=ζ hL;clear hL;go_wp2_with (at_builtin;refine wpList_append_own _ rfl _ _ 35 rfl w.heap.size 5 i0 (.int .u8 0) 1 1 Tryz.underlying35 hi hz0 hz1 hz2 rfl (by decide) _ _ _ rfl (hown.alloc _) ⟨wr.heap.size,0,none⟩ 1 1 [.int .u8 10] rfl rfl (KT _ _ _) (by intro u' rK;simp at rK;subst rK;rfl) (by unfold maxLen;omega) (by omega) (by simp;omega) ?_;refine aaI ?_);refine ζ ?_;intro v1 w1 hown1 hg1 _;have hb1:Below w.heap.size w w1:=(hb.alloc hBw _).grown hg1 (by simp;omega) (fun q hq=>(hown.lt q hq).1);have eL:Lib.byteCells L++[Value.int .u8 10]=Lib.byteCells (L++[10]):=by simp[Lib.byteCells]
   rw[eL] at hown1;rcases hown1.2 with ⟨-,h0⟩|⟨gb,c1,cur,rfl,-⟩
   .omega
   .have hcv:=run_convert_bytes_back (P:=prog) w1 35 9 5 ⟨gb,0,none⟩ c1 (L++[10]) Tryz.underlying35 Tryz.underlying5 Tryz.underlying9 (fun j hj=>hown1.cells (g:=gb) rfl j _ (by rw[Lib.byteCells,abj,aaE hj];rfl))
    have eln:(L++[(10:UInt8)]).length=L.length+1:=by simp
    rw[eln] at hcv;clear eln;have HOW:=ζ hown1;clear hown1 hg1;go_wp2;go_ret;rw[<-tJ.out];exact⟨rfl,hb1⟩
end
section
open Go.RowKit
namespace Ce
theorem UA (x:Int):∀m:List Int,jn (m++[x])=if m=[] then dg x else jn m++32::dg x
 |[]=>rfl
 |y::r=>by
  rw[if_neg (by simp),abp,zO,zO];simp[jt]
theorem Dm {l:List Int} {z:Nat->Int} (hz:∀i x,l[i]? =some x->z i=x) (h0:∀x∈l,0<=x):∀k,k<=l.length->fB z k=jn (l.take k)
 |0,_=>rfl
 |k+1,hk=>by
  have ih:=Dm hz h0 k (by omega);have hx:l[k]? =some l[k]:=aaE (by omega);have ht:l.take (k+1)=l.take k++[l[k]]:=by rw[acj,hx];rfl
  rw[ht,UA];show(if 0<k then fB z k++[32] else fB z k)++Lib.itoa (z k)=_;rw[hz k _ hx,Nu.A5 (h0 _ (aaJ hx)),ih];by_cases hk0:k=0
  .subst hk0
   rw[if_neg (by omega),if_pos (by simp)];rfl
  .have hne:l.take k≠[]:=fun e=>by
    have:=congrArg List.length e;rw[abL,ab3] at this;omega
   rw[if_pos (by omega),if_neg hne];simp[dg]
theorem XY (r:List Int):2*r.length<=(jt r).length:=by
 induction r with
 |nil=>simp[jt]
 |cons x r ih=>
  have:=Ek x;have e:jt (x::r)=32::dg x++jt r:=rfl;rw[e];simp;omega
theorem K6 (l:List Int):2*l.length<=(bJ l).length:=by
 unfold bJ;cases l with
 |nil=>simp
 |cons x r=>
  have:=XY r;have:=Ek x;rw[zO];simp;omega
theorem aaY (r:List Int) (h:∀x∈r,dR x):(jt r).length<=10*r.length:=by
 induction r with
 |nil=>simp[jt]
 |cons x r ih=>
  have:=uu (h x (by simp));have:=ih (fun y hy=>h y (by simp[hy]));have e:jt (x::r)=32::dg x++jt r:=rfl;rw[e];simp;omega
theorem xO (l:List Int) (h:∀x∈l,dR x):(bJ l).length<=10*l.length+1:=by
 unfold bJ;cases l with
 |nil=>simp[jn]
 |cons x r=>
  have:=aaY r (fun y hy=>h y (by simp[hy]));have:=uu (h x (by simp));rw[zO];simp;omega
end Ce
theorem II {ao:Option Addr} {cap:Nat} {l:List Int} {w:World} (ha:aV w ao l) (hok:∀x∈l,Ce.dR x) (hl:l.length<=100000000) (ht:lC w):
 Calls Tryz.prog 39 #[.slice ao l.length cap] w fun e w'=>e= .returned (.string ⟨(Ce.bJ l).toArray⟩)/\Below w.heap.size w w':=by
 have hz:∀i x,l[i]? =some x->(fun i=>l.getD i 0) i=x:=fun i x hx=>by simp[hx]
 have hI:tC w ao l.length (fun i=>l.getD i 0):=fun i hi=>by
  have hx:l[i]? =some l[i]:=aaE hi;obtain⟨b,o,e,hc⟩:=ha i _ hx;have:=hok _ (aaJ hx);have h0:=this.1;have h9:=this.2;rw[hz i _ hx];exact⟨⟨by omega,by omega⟩,b,o,e,hc⟩
 have h:=IU ao l.length cap _ w hI hl ht;rw[Ce.Dm hz (fun x hx=>(hok x hx).1) l.length (aaF _),abQ] at h;exact h
end
section
open Go.Proofs.Tryz
open Go.RowKit
theorem dL.xd {w:World} {B b:Nat} {L:List UInt8} {t:Bool} (h:dL w B b L t):dL (w.setCell ⟨b,2,none⟩ (.bool true)) B b L true:=h.imp (·.xd) (·.xd)
theorem dL.base {w:World} {B b:Nat} {L:List UInt8} {t:Bool} (h:dL w B b L t):B<=b/\b<w.heap.size:=by
 obtain⟨p,h⟩:=h.some;exact⟨h.1,h.lt⟩
theorem uX {w:World} {B b:Nat} {L:List UInt8} {t:Bool} (h:dL w B b L t) {ao:Option Addr} {m c:Nat} (hm:m<=4611686018427387) (iL:t=true\/33554432<L.length+2*m) (hL:L.length<=70368744177664):
 Calls prog 78 #[.pointer (some ⟨b,0,none⟩),.slice ao m c] w fun e w'=>e= .returned (.tuple #[])/\dL w' B b L true/\Below B w w':=by
 obtain⟨p,h1⟩:=h.some;obtain⟨vo,vc,c0,c1,c2,fz,hsh⟩:=h1.cells;have LZ:=h.base;have HW:=ζ h;have HF:=ζ h.xd;clear h1 hsh h;obtain⟨K,hK⟩:∃K,L.length=K:=⟨_,rfl⟩;have HLEN:Hid (∀_:Nat,Calls prog 79 #[.pointer (some ⟨b,0,none⟩)] w fun e w'=>e= .returned (.int .i64 (K:Int))/\w'=w):=fun _=>by rw[<-hK];exact rT HW.out
 rw[hK] at c1 iL hL;have hB:Below B w (w.setCell ⟨b,2,none⟩ (.bool true)):=(aaG B w).setCell (p:=⟨b,2,none⟩) LZ.1 _;cases t with
 |true=>
  clear iL;go_enter func78,ntmps78;go_wp2;refine bodyPost_ret (v:= .tuple #[]) (by simp[results,results78]) rfl ?_;exact⟨rfl,HF.out,hB⟩
 |false=>
  have hl2:(33554432:Int)<(K:Int)+2*(m:Int):=by
   rcases iL with h|h
   .cases h
   .omega
  clear iL;go_enter func78,ntmps78;go_wp2_with (go_at_call 79;refine(HLEN.out 0).mono ?_;rintro e w' ⟨rfl,rfl⟩);refine bodyPost_ret (v:= .tuple #[]) (by simp[results,results78]) rfl ?_;exact⟨rfl,HF.out,hB⟩
theorem uW {w:World} {B b:Nat} {L:List UInt8} (h:dL w B b L false) (hB:B<=w.heap.size) {ao:Option Addr} {c:Nat} {l:List Int} (ha:aV w ao l) (hok:∀x∈l,Ce.dR x) (ht:lC w) (hl:L.length+2*l.length<=33554432):
 Calls prog 78 #[.pointer (some ⟨b,0,none⟩),.slice ao l.length c] w fun e w'=>e= .returned (.tuple #[])/\dL w' B b (L++Ce.bJ l) false/\Below B w w':=by
 obtain⟨p,h1⟩:=h.some;obtain⟨vo,vc,c0,c1,c2,fz,hsh⟩:=h1.cells;have LZ:=h.base;have HW:=ζ h;have hhi:=Ce.xO l hok;have WQ:Hid (∀V,Below w.heap.size w V->Calls prog 39 #[.slice ao l.length c] V fun e w'=>e= .returned (.string ⟨(Ce.bJ l).toArray⟩)/\Below V.heap.size V w'):=fun V hV=>II (ha.later hV) hok (by omega) (adC ht V hV)
 have lR:Hid (∀V,Below w.heap.size w V->Calls prog 120 #[.pointer (some ⟨b,0,none⟩),.string ⟨(Ce.bJ l).toArray⟩] V fun e w'=>(∃v,e= .returned v)/\dL w' B b (L++Ce.bJ l) false/\Below B V w'):=fun V hV=>uU (HW.out.later hV) (aa1 hB hV.size) (by omega)
 have hbr:Below w.heap.size w w.drew:=(aaG _ _).drew;obtain⟨S,hS⟩:∃S,Ce.bJ l=S:=⟨_,rfl⟩;obtain⟨m,hm⟩:∃m,l.length=m:=⟨_,rfl⟩;obtain⟨K,hK⟩:∃K,L.length=K:=⟨_,rfl⟩;have HLEN:Hid (∀_:Nat,Calls prog 79 #[.pointer (some ⟨b,0,none⟩)] w fun e w'=>e= .returned (.int .i64 (K:Int))/\w'=w):=fun _=>by rw[<-hK];exact rT HW.out
 rw[hS,hm] at WQ;rw[hS] at lR ⊢;rw[hm] at hl ⊢;rw[hK] at c1 hl;have hl2:¬((33554432:Int)<(K:Int)+2*(m:Int)):=by omega
 clear h1 hsh h hhi hm hK hS ha hok ht;go_enter func78,ntmps78;go_wp2_with (go_at_call 79;refine(HLEN.out 0).mono ?_;rintro e w' ⟨rfl,hw'⟩;obtain rfl:=hw'.symm;clear hw')
 go_region_held3 (fun V=>Below B w V)
  (first|assumption|exact hbr.mono hB)
  (first
    |(go_at_call 39;with_reducible refine(WQ.out _ (by first|assumption|exact hbr)).mono ?_;rintro e w3 ⟨rfl,hb3⟩;have hbz:Below w.heap.size w w3:=hbr.trans (hb3.mono hbr.size);have hbB:Below B w w3:=hbz.mono hB)
    |(go_at_call 120;with_reducible refine(lR.out _ (by assumption)).mono ?_;rintro e w4 ⟨⟨v4,rfl⟩,hw4,hb4⟩;have hbF:Below B w w4:=acd (by assumption) hb4))
 go_wp2
 go_end0
 exact⟨rfl,hw4,hbF⟩
theorem wW {w:World} {B b:Nat} (h:dL w B b [] false) (hB:B<=w.heap.size) {S:List UInt8} (hS:S.length<=2) {k:Int} (hk:Ce.dR k) (ht:∀W,Below B w W->lC W):
 Calls prog 77 #[.pointer (some ⟨b,0,none⟩),.string ⟨S.toArray⟩,.int .i64 k] w fun e w'=>e= .returned (.tuple #[])/\dL w' B b (S++Ce.bJ [k]) false/\Below B w w':=by
 have LZ:=h.base;have lR:=ζ (uU h hB (S:=S) (by simp;omega));have HT:=ζ ht;clear h ht;go_enter func77,ntmps77;go_wp2_with (go_at_call 120;refine lR.out.mono ?_;rintro e w1 ⟨⟨v1,rfl⟩,hw1,hb1⟩;refine aaI ?_);refine ζ ?_;rw[abl] at hw1;have hB1:B<=w1.heap.size:=aa1 hB hb1.size;have ha1:Below w1.heap.size w1 (w1.alloc (.cells #[.int .i64 k] 3)):=(aaG _ _).alloc (aaF _) _;have hb2:=hb1.trans (ha1.mono hB1);have hI:aV (w1.alloc (.cells #[.int .i64 k] 3)) (some ⟨w1.heap.size,0,none⟩) [k]:=aq.at (l:=[k]) (heap_alloc_new w1 _);have HL:=ζ (uW (c:=1) (hw1.later ha1) (by simp;omega) hI (fun x hx=>by rw[abe.1 hx];exact hk) (HT.out _ hb2) (by simp;omega));have aA:=ζ hb2;clear lR hw1 hb1 hb2 hI;go_wp2_with (go_at_call 78;refine HL.out.mono ?_;rintro e w3 ⟨rfl,hw3,hb3⟩)
 go_end0
 exact⟨rfl,hw3,aA.out.trans hb3⟩
end
section
namespace Ce
open Nu
section
variable {B:Nat->Int} {n:Nat}
theorem K2 (hT:qg B n):∀(f:Nat) (l0:List Int) (i:Nat) {e:Nat},i<=n->rC B n f l0 i= .error e->e<=n
 |0,_,_,_,hi,h=>by cases h;exact hi
 |f+1,l0,i,e,hi,h=>by
  unfold rC at h;cases hm:num B n i with
  |none=>rw[hm] at h;cases h;exact hi
  |some q=>
   obtain⟨v,k⟩:=q;rw[hm] at h;dsimp only at h;obtain⟨-,-,-,n4⟩:=fS hi hm;by_cases hh:l0≠[]/\v<l0.headD 0
   .rw[if_pos hh] at h;cases h;exact hi
   .rw[if_neg hh] at h
    by_cases h10:B k=10
    .rw[if_pos h10] at h;cases h
    .rw[if_neg h10] at h
     by_cases gi:B k=32
     .rw[if_pos gi] at h
      have:=gw hT gi (by decide);exact K2 hT f _ (k+1) (by omega) h
     .rw[if_neg gi] at h;cases h;exact n4
theorem XU (hT:qg B n) {i e:Nat} (hi:i<=n) (h:iU B n i= .error e):e<=n:=by
 unfold iU at h;by_cases h10:B i=10
 .rw[if_pos h10] at h;cases h
 .rw[if_neg h10] at h
  exact K2 hT _ _ i hi h
theorem YG (hT:qg B n) {i e:Nat} {last:Int×Int} (hi:i<=n) (h:oT B n i last= .error e):e<=n:=by
 unfold oT at h;cases hm:num B n i with
 |none=>rw[hm] at h;cases h;exact hi
 |some q=>
  obtain⟨u,k⟩:=q;rw[hm] at h;dsimp only at h;obtain⟨-,-,-,n4⟩:=fS hi hm;by_cases gi:B k≠32
  .rw[if_pos gi] at h;cases h;exact n4
  .rw[if_neg gi] at h
   have hlt:=gw hT (aa2 gi:B k=32) (by decide);cases hm2:num B n (k+1) with
   |none=>rw[hm2] at h;cases h;omega
   |some q=>
    obtain⟨v,e2⟩:=q;rw[hm2] at h;dsimp only at h;obtain⟨-,-,-,m4⟩:=fS (by omega) hm2;by_cases c1:v<=u
    .rw[if_pos c1] at h;cases h;omega
    .rw[if_neg c1] at h
     by_cases c2:u<last.1\/(u=last.1/\v<=last.2)
     .rw[if_pos c2] at h;cases h;exact hi
     .rw[if_neg c2] at h
      by_cases c3:B e2≠10
      .rw[if_pos c3] at h;cases h;exact m4
      .rw[if_neg c3] at h;cases h
theorem GQ (hT:qg B n):∀(k:Nat) (Fp:List (List Int)) (i:Nat) {e:Nat},i<=n->lists B n k Fp i= .error e->e<=n
 |0,_,_,_,_,h=>by cases h
 |k+1,Fp,i,e,hi,h=>by
  have h:(match iU B n i with| .error e=> .error e| .ok (l,j)=>lists B n k (Fp++[l]) j)=(Except.error e:Except Nat (List (List Int)×Nat)):=h;cases hl:iU B n i with
  |error e'=>rw[hl] at h;cases h;exact XU hT hi hl
  |ok q=>
   obtain⟨l,j⟩:=q;rw[hl] at h;exact GQ hT k _ j (Ql hT hi hl).2.2.2 h
theorem Hi (hT:qg B n):∀(k:Nat) (FR:List (Int×Int)) (last:Int×Int) (i:Nat) {e:Nat},i<=n->gC B n k FR last i= .error e->e<=n
 |0,_,_,_,_,_,h=>by cases h
 |k+1,FR,last,i,e,hi,h=>by
  have h:(match oT B n i last with| .error e=> .error e| .ok (p,j)=>gC B n k (FR++[p]) p j)=(Except.error e:Except Nat (List (Int×Int)×Nat)):=h;cases hl:oT B n i last with
  |error e'=>rw[hl] at h;cases h;exact YG hT hi hl
  |ok q=>
   obtain⟨p,j⟩:=q;rw[hl] at h;exact Hi hT k _ p j (QM hT hi hl).2.2.2.2 h
theorem YO (hT:qg B n) {pl:Bool} {k i e:Nat} (hi:i<=n) (h:MV B n pl k i= .error e):e<=n:=by
 unfold MV at h
 split at h
 .cases hl:lists B n k [] i with
  |error e'=>rw[hl] at h;cases h;exact GQ hT k _ i hi hl
  |ok q=>rw[hl] at h;cases h
 .cases hl:gC B n k [] (-1,0) i with
  |error e'=>rw[hl] at h;cases h;exact Hi hT k _ _ i hi hl
  |ok q=>rw[hl] at h;cases h
theorem IL (hT:qg B n):(parse B n).2.2=0\/((parse B n).1=zero/\0<=(parse B n).2.1/\(parse B n).2.1<=n/\((parse B n).2.2=170/\n<=33554432\/(parse B n).2.2=10)):=by
 have mk:∀{x:Cert×Int×Int} {p:Int},x=(zero,p,170)->0<=p->p<=n->n<=33554432->x.2.2=0\/(x.1=zero/\0<=x.2.1/\x.2.1<=n/\(x.2.2=170/\n<=33554432\/x.2.2=10)):=fun {x p} h h0 h1 h2=>by
  subst h;exact .inr ⟨rfl,h0,h1,.inl ⟨rfl,h2⟩⟩
 by_cases c0:33554432<n
 .unfold parse
  rw[if_pos c0];exact .inr ⟨rfl,by decide,by dsimp only;omega,.inr rfl⟩
 .have hm':n<=33554432:=by omega
  by_cases c1:B 0≠112/\B 0≠110
  .exact mk (p:=0) (by unfold parse;rw[if_neg c0,if_pos c1]) (by decide) (by omega) hm'
  .have h0:0<n:=by
    by_cases h:B 0=112
    .exact gw hT h (by decide)
    .exact gw hT (show B 0=110 by omega) (by decide)
   by_cases c2:B 1≠32
   .exact mk (p:=1) (by unfold parse;rw[if_neg c0,if_neg c1,if_pos c2]) (by decide) (by omega) hm'
   .have hn1:=gw hT (aa2 c2:B 1=32) (by decide)
    cases hm:num B n 2 with
    |none=>exact mk (p:=2) (by unfold parse;rw[if_neg c0,if_neg c1,if_neg c2,hm]) (by decide) (by omega) hm'
    |some q=>
     obtain⟨k,i⟩:=q;obtain⟨-,-,-,n4⟩:=fS (by omega) hm;by_cases c3:most (decide (B 0=112))<k
     .exact mk (p:=2) (by unfold parse;rw[if_neg c0,if_neg c1,if_neg c2,hm];dsimp only;rw[if_pos c3]) (by decide) (by omega) hm'
     .by_cases c4:B i≠10
      .exact mk (p:=i) (by unfold parse;rw[if_neg c0,if_neg c1,if_neg c2,hm];dsimp only;rw[if_neg c3,if_pos c4]) (by omega) (by omega) hm'
      .have hni:=gw hT (aa2 c4:B i=10) (by decide)
       cases hb:MV B n (decide (B 0=112)) k.toNat (i+1) with
       |error e=>exact mk (p:=e) (by unfold parse;rw[if_neg c0,if_neg c1,if_neg c2,hm];dsimp only;rw[if_neg c3,if_neg c4,hb]) (by omega) (by have:=YO hT (by omega) hb;omega) hm'
       |ok q=>
        obtain⟨c,j⟩:=q;by_cases c5:j<n
        .exact mk (p:=j) (by unfold parse;rw[if_neg c0,if_neg c1,if_neg c2,hm];dsimp only;rw[if_neg c3,if_neg c4,hb];dsimp only;rw[if_pos c5]) (by omega) (by omega) hm'
        .left
         unfold parse;rw[if_neg c0,if_neg c1,if_neg c2,hm];dsimp only;rw[if_neg c3,if_neg c4,hb];dsimp only;rw[if_neg c5]
end
def cQ (L:List UInt8) (i:Nat):Int:=match L[i]? with|some x=>(x.toNat:Int)|none=> -1
end Ce
end
section
namespace Ce
open Nu
section
variable {B:Nat->Int} {n:Nat}
theorem J5 (q:Nat):∀k,val (fun i=>B (q+i)) 0 k=val B q k
 |0=>rfl
 |k+1=>by simp[val,J5 q k]
theorem Rs {i:Nat} (hi:i<=n):
 (∃v k,num B n i=some (v,k)/\k=jL B n i/\scan (fun j=>B (i+j)) (jL B n i-i)= .ok [⟨1,0,((jL B n i-i:Nat):Int),v⟩,⟨3,((jL B n i-i:Nat):Int),((jL B n i-i:Nat):Int),0⟩])\/
 (num B n i=none/\((∃x,scan (fun j=>B (i+j)) (jL B n i-i)= .error x)\/(jL B n i=i/\scan (fun j=>B (i+j)) (jL B n i-i)= .ok [⟨3,0,0,0⟩]))):=by
 have hsk:bT isDigit B n i (jL B n i):=gM isDigit B n i hi;obtain⟨m,hm⟩:∃m,jL B n i-i=m:=⟨_,rfl⟩;have hd:∀j,j<m->isDigit (B (i+j))=true:=fun j hj=>hsk.all (i+j) (by omega) (by omega)
 rw[hm];by_cases h0:m=0
 .right
  subst h0;have hno:¬zA B n i:=fun h=>by have:=h.1;omega
  refine⟨by unfold num;rw[if_neg hno],.inr ⟨by have:=hsk.lo;omega,?_⟩⟩;unfold scan;have h1:bT au (fun j=>B (i+j)) 0 0 0:=bT.here (aaF _) (fun h=>absurd h (ad2 _));exact fN 0 (jB h1) rfl
 .have h1:bT au (fun j=>B (i+j)) m 0 0:=bT.here (aaR _) (fun _=>uI (hd 0 (by omega)))
  have h2:bT isDigit (fun j=>B (i+j)) m 0 m:=⟨aaR _,aaF _,fun j _ hj=>hd j hj,fun h=>absurd h (ad2 _)⟩;have hd0:=hd 0 (by omega);by_cases hok:zA B n i
  .left
   have hb:¬(9<m-0\/(1<m-0/\B (i+0)=48)):=fun h=>by
    obtain⟨q1,q2,q3⟩:=hok;rw[abG] at h;rcases h with h|h
    .omega
    .rcases q3 with q3|q3
     .omega
     .exact q3 h.2
   refine⟨val B i (jL B n i-i),jL B n i,by unfold num;rw[if_pos hok],rfl,?_⟩;rw[hm];have hn:=mL (g:=fun j=>B (i+j)) (n:=m) (p:=0) (q:=0) (r:=m) h1 (by omega) hd0 h2 hb;rw[Nat.sub_zero,J5] at hn;have he:=jB (g:=fun j=>B (i+j)) (n:=m) (p:=m) (bT.here (aaF _) (fun h=>absurd h (ad2 _)));unfold scan;rw[jw m hn (show(1:Int)≠3 by decide)];obtain⟨m',rfl⟩:∃m',m=m'+1:=⟨m-1,by omega⟩;rw[fN m' he rfl];rfl
  .right
   have hb:9<m-0\/(1<m-0/\B (i+0)=48):=by
    rw[abG];by_cases h9:9<m
    .left;omega
    .right
     refine aa2 fun h=>hok ⟨by omega,by omega,?_⟩
     by_cases h1:m=1
     .left;omega
     .right;exact fun h48=>h ⟨by omega,h48⟩
   refine⟨by unfold num;rw[if_neg hok],.inl ⟨(0,12),?_⟩⟩;unfold scan;exact iG (x:=(0,12)) m (mM (g:=fun j=>B (i+j)) (n:=m) (p:=0) (q:=0) (r:=m) h1 (by omega) hd0 h2 hb)
theorem S5 (i:Nat) (hi:i<=n) (hT:qg B n):oT B n i (0,0)=oT B n i (-1,0):=by
 unfold oT;cases hm:num B n i with
 |none=>rfl
 |some q=>
  obtain⟨u,k⟩:=q;dsimp only;obtain⟨n1,-,-,n4⟩:=fS hi hm;by_cases gi:B k≠32
  .rw[if_pos gi,if_pos gi]
  .rw[if_neg gi,if_neg gi]
   have hlt:=gw hT (aa2 gi:B k=32) (by decide);cases hm2:num B n (k+1) with
   |none=>rfl
   |some q=>
    obtain⟨v,e⟩:=q;dsimp only;obtain⟨m1,-,-,-⟩:=fS (by omega) hm2;by_cases c1:v<=u
    .rw[if_pos c1,if_pos c1]
    .have:=n1.1
     have:=m1.1;have c2:¬(u<((0:Int),(0:Int)).1\/(u=((0:Int),(0:Int)).1/\v<=((0:Int),(0:Int)).2)):=by dsimp only;omega
     have c3:¬(u<((-1:Int),(0:Int)).1\/(u=((-1:Int),(0:Int)).1/\v<=((-1:Int),(0:Int)).2)):=by dsimp only;omega
     rw[if_neg c1,if_neg c1,if_neg c2,if_neg c3]
theorem MA (k i:Nat) (hi:i<=n) (hT:qg B n):gC B n k [] (0,0) i=gC B n k [] (-1,0) i:=by
 cases k with
 |zero=>rfl
 |succ k=>
  show(match oT B n i (0,0) with| .error e=>Except.error e| .ok (p,j)=>gC B n k ([]++[p]) p j)=(match oT B n i (-1,0) with| .error e=>Except.error e| .ok (p,j)=>gC B n k ([]++[p]) p j);rw[S5 i hi hT]
end
end Ce
end
section
open Go.Proofs.Tryz
open Go.RowKit
def cK (w:World) (b:Nat) (ao:Option Addr) (n cap p:Nat):Prop:=
 w.heap[b]? =some (.cells #[.slice ao n cap,.int .i64 p] 137 (0,0))
def b8 (p:Nat):Ending:= .panicked [{ v:= .iface 135 (.int .i64 (p:Int)),recovered:=false }]
section
variable {w w':World} {b:Nat} {ao:Option Addr} {n cap p:Nat} {g:Nat->Int}
theorem cK.lt (h:cK w b ao n cap p):b<w.heap.size:=lt_of_block h
theorem cK.text (h:cK w b ao n cap p):w.cell? ⟨b,0,none⟩=some (.slice ao n cap):=by unfold cK at h;simp[World.cell?,h]
theorem cK.place (h:cK w b ao n cap p):w.cell? ⟨b,1,none⟩=some (.int .i64 p):=by unfold cK at h;simp[World.cell?,h]
theorem cK.free (h:cK w b ao n cap p) (i:Nat):w.frozen? ⟨b,i,none⟩=false:=by unfold cK at h;simp[World.frozen?,h]
theorem cK.pos (h:cK w b ao n cap p):posOf w b=p:=by simp[posOf,h.place]
theorem cK.set (h:cK w b ao n cap p) (q:Nat):cK (w.setCell ⟨b,1,none⟩ (.int .i64 q)) b ao n cap q:=by
 unfold cK at h ⊢;rw[heap_setCell_same w b 1 _ _ _ h];simp
theorem cK.drewN (h:cK w b ao n cap p) (k:Nat):cK (w.drewN k) b ao n cap p:=h
theorem cK.later (h:cK w b ao n cap p) (hb:Below w.heap.size w w'):cK w' b ao n cap p:=(hb.block _ h.lt).trans h
theorem cK.kept {r:Option Nat} (h:cK w b ao n cap p) (hg:w.grownBy w' r) (hr:some b≠r):cK w' b ao n cap p:=(hg.block b h.lt hr).trans h
end
theorem ck {w w':World} {r:Option Nat} (h:Below w.heap.size w w'):w.grownBy w' r:=⟨h.os,h.tape,h.output,h.size,fun k hk _=>h.block k hk⟩
theorem vB {b:Nat} {ao:Option Addr} {n cap p:Nat} {g:Nat->Int} {w:World} (hs:cK w b ao n cap p) (ht:aJ w ao n g) (hn:n<=33554432) (_hp:p<=n) {c:Int} (h0:0<=c) (hc:Ce.bD n g p=c):
 Calls prog 115 #[.pointer (some ⟨b,0,none⟩),.int .u8 c] w fun e w'=>e= .returned (.bool true)/\cK w' b ao n cap (p+1)/\w.grownBy w' (some b)/\p<n:=by
 have hlt:p<n:=by
  unfold Ce.bD at hc
  split at hc
  .assumption
  .omega
 rw[Ce.bD,if_pos hlt] at hc;obtain⟨⟨b0,b1⟩,tb,to,rfl,cq⟩:=ht p hlt;rw[hc] at cq;have c0:=hs.text;have c1:=hs.place;have fz:=hs.free 1;have j0:((p:Int)==(n:Int))=false:=by simp;omega
 have j1:(p:Int)<(n:Int):=by omega
 have j2:(0:Int)<=(p:Int):=by omega
 have HS:=ζ hs;have HT:=ζ ht;clear hs ht hc;go_enter func115,ntmps115;go_wp2_with fail;go_quiet (fail);go_wp2;go_ret;exact⟨rfl,(HS.out.drewN _).set (p+1),grownBy_setCell (bC (acg _ _) _) 1 _,hlt⟩
theorem xC {b:Nat} {ao:Option Addr} {n cap p:Nat} {g:Nat->Int} {w:World} (hs:cK w b ao n cap p) (ht:aJ w ao n g) (hn:n<=33554432) (hp:p<=n) {c:Int} (hc:Ce.bD n g p≠c):
 Calls prog 115 #[.pointer (some ⟨b,0,none⟩),.int .u8 c] w fun e w'=>e= .returned (.bool false)/\cK w' b ao n cap p/\w.grownBy w' (some b):=by
 have c0:=hs.text;have c1:=hs.place;have j2:(0:Int)<=(p:Int):=by omega
 by_cases hlt:p<n
 .rw[Ce.bD,if_pos hlt] at hc
  obtain⟨⟨b0,b1⟩,tb,to,rfl,cq⟩:=ht p hlt;have j0:((p:Int)==(n:Int))=false:=by simp;omega
  have j1:(p:Int)<(n:Int):=by omega
  have j3:(g p==c)=false:=by simp[hc]
  have HS:=ζ hs;have HT:=ζ ht;clear hs ht hc;go_enter func115,ntmps115;go_wp2_with fail;go_quiet (fail);go_wp2;go_ret;exact⟨rfl,HS.out.drewN _,bC (acg _ _) _⟩
 .obtain rfl:p=n:=by omega
  have HS:=ζ hs;have HT:=ζ ht;clear hs ht hc;go_enter func115,ntmps115;go_wp2_with fail;go_quiet (fail);go_wp2;go_ret;exact⟨rfl,HS.out.drewN _,bC (acg _ _) _⟩
theorem JZ {b:Nat} {ao:Option Addr} {n cap p:Nat} {g:Nat->Int} {w:World} (hs:cK w b ao n cap p) (ht:aJ w ao n g) (hn:n<=33554432) (hp:p<=n) {c:Int} (h0:0<=c) (hc:Ce.bD n g p=c):
 Calls prog 117 #[.pointer (some ⟨b,0,none⟩),.int .u8 c] w fun e w'=>e= .returned (.tuple #[])/\cK w' b ao n cap (p+1)/\w.grownBy w' (some b)/\p<n:=by
 have HP:=ζ (vB hs ht hn hp h0 hc);clear hs ht hc;go_enter func117,ntmps117;go_wp2_with (go_at_call 115;refine HP.out.mono ?_;rintro e w' ⟨rfl,h⟩)
 go_end0
 exact⟨rfl,h⟩
theorem Nz {b:Nat} {ao:Option Addr} {n cap p:Nat} {g:Nat->Int} {w:World} (hs:cK w b ao n cap p) (ht:aJ w ao n g) (hn:n<=33554432) (hp:p<=n) {c:Int} (hc:Ce.bD n g p≠c):
 Calls prog 117 #[.pointer (some ⟨b,0,none⟩),.int .u8 c] w fun e w'=>e=b8 p/\w.grownBy w' (some b):=by
 have HP:=ζ (xC hs ht hn hp hc);clear hs ht hc;go_enter func117,ntmps117;go_wp2_with (go_at_call 115;refine HP.out.mono ?_;rintro e w' ⟨rfl,hr,hg⟩;have c1:=hr.place;clear hr);exact⟨rfl,rfl,hg⟩
theorem qq (x:Int) (w:World):Calls prog 334 #[.int .i64 x] w fun e w'=>e= .returned (.bool (decide (0<=x/\x<=999999999)))/\w'=w:=by
 by_cases h0:0<=x
 .by_cases h1:x<=999999999
  .rw[decide_eq_true ⟨h0,h1⟩]
   go_enter func334,ntmps334;go_wp2;go_ret;exact⟨rfl,rfl⟩
  .rw[decide_eq_false (fun h=>h1 h.2)]
   go_enter func334,ntmps334;go_wp2;go_ret;exact⟨rfl,rfl⟩
 .rw[decide_eq_false (fun h=>h0 h.1)]
  go_enter func334,ntmps334;go_wp2;go_ret;exact⟨rfl,rfl⟩
theorem M0 (a b c d:Int) (w:World):Calls prog 227 #[.agg #[.int .i64 a,.int .i64 b],.agg #[.int .i64 c,.int .i64 d]] w fun e w'=>e= .returned (.bool (decide (c<a\/(c=a/\d<b))))/\Below w.heap.size w w':=by
 by_cases h0:c<a
 .rw[decide_eq_true (.inl h0)]
  go_enter func227,ntmps227;go_wp2;go_ret;exact⟨rfl,((aaG _ _).alloc (aaF _) _).alloc (by simp) _⟩
 .by_cases h1:c=a
  .subst h1
   by_cases h2:d<b
   .rw[decide_eq_true (.inr ⟨rfl,h2⟩)]
    go_enter func227,ntmps227;go_wp2;go_ret;exact⟨rfl,((aaG _ _).alloc (aaF _) _).alloc (by simp) _⟩
   .rw[decide_eq_false (by omega)]
    go_enter func227,ntmps227;go_wp2;go_ret;exact⟨rfl,((aaG _ _).alloc (aaF _) _).alloc (by simp) _⟩
  .have h3:(a==c)=false:=by simp;omega
   rw[decide_eq_false (by omega)];go_enter func227,ntmps227;go_wp2;go_ret;exact⟨rfl,((aaG _ _).alloc (aaF _) _).alloc (by simp) _⟩
end
section
open Go.Proofs.Tryz
open Go.RowKit
theorem vw {w:World} {ao:Option Addr} {c:Nat} {ls:List (List Int)} (h:Ce.iy w ao ls) (hs:ls.length<=4611686018427387904) (hl:∀l∈ls,l.length<=4611686018427387904):
 Calls prog 333 #[.slice ao ls.length c] w fun e w'=>Ce.Says e (Ce.AR ls)/\Below w.heap.size w w':=by
 obtain⟨n,hn⟩:∃n,ls.length=n:=⟨_,rfl⟩;rw[hn] at hs ⊢;have HS:=ζ h;have HL:=ζ hl;have HN:=ζ hn;clear h hl hn;by_cases hc:1048576<n
 .have uP:(1048576:Int)<(n:Int):=by omega
  go_enter func333,ntmps333;go_wp2;go_ret;exact⟨Ce.Says.no fun h=>by have:=h.2;have:=HN.out;omega,aaG _ _⟩
 .have uP:¬((1048576:Int)<(n:Int)):=by omega
  go_enter func333,ntmps333;go_wp2;go_loopw [12] (fun iv wr=>∃k:Nat,k<=n/\iv= .int .i64 (k:Int)/\(∀i l,i<k->ls[i]? =some l->Ce.xG l)/\Below w.heap.size w wr) (fun iv _=>n-(intOf iv).toNat)
  case atStart=>exact⟨0,aaR _,rfl,fun i l h=>by omega,aaG _ _⟩
  case round=>
   obtain⟨k,hk,rfl,hok,dA⟩:=hrel;have iB:=ζ hok;have cN:=ζ dA;clear hok;by_cases hlt:k<n
   .have aP:(k:Int)<(n:Int):=by omega
    obtain⟨l,hl⟩:∃l,ls[k]? =some l:=⟨_,aaE (by have:=HN.out;omega)⟩;have eB:=HL.out l (aaJ hl);obtain⟨b,o,xa,xc,rfl,c0,qG⟩:=(HS.out.later dA) k l hl;obtain⟨m,hm⟩:∃m,l.length=m:=⟨_,rfl⟩;have fL:=ζ hl;have HM:=ζ hm;have TC:=ζ qG;rw[hm] at eB c0;have k0:(0:Int)<=(k:Int):=by omega
    clear hl hm qG dA;go_wp2;go_loopw [18] (fun jv wx=>∃j:Nat,j<=m/\jv= .int .i64 (j:Int)/\(∀i x,i<j->l[i]? =some x->Ce.dR x/\l.headD 0<=x)/\wx=wr) (fun jv _=>m-(intOf jv).toNat)
    case atStart=>exact⟨0,aaR _,rfl,fun i x h=>by omega,rfl⟩
    case round=>
     obtain⟨j,hj,rfl,LJ,rfl⟩:=hrel;have Ni:=ζ LJ;have j0:(0:Int)<=(j:Int):=by omega
     clear LJ;by_cases hjm:j<m
     .have LO:(j:Int)<(m:Int):=by omega
      have hm0:(0:Int)<(m:Int):=by omega
      obtain⟨x,hx⟩:∃x,l[j]? =some x:=⟨_,aaE (by have:=HM.out;omega)⟩;obtain⟨y,hy⟩:∃y,l[0]? =some y:=⟨_,aaE (by have:=HM.out;omega)⟩;have hy0:l.headD 0=y:=by
       cases l with
       |nil=>cases hy
       |cons a r=>cases hy;rfl
      obtain⟨xb,xo,rfl,d0⟩:=TC.out j x hx;obtain⟨xb',xo',e',d1⟩:=TC.out 0 y hy;cases e';rw[abG] at d1;have HX:=ζ hx;have Wh:=ζ hy0;clear hx hy hy0;by_cases hxy:x<y
      .have cB:Hid (¬Ce.xG l):=fun h=>by
        have:=(h x (aaJ HX.out)).2;have:=Wh.out;omega
       go_wp2;go_ret;exact⟨Ce.Says.no fun h=>cB.out (h.1 l (aaJ fL.out)),cN.out⟩
      .by_cases hn1:0<=x/\x<=999999999
       .have iZ:Hid (Ce.dR x):=hn1
        have HD:Hid (∀W,Calls prog 334 #[.int .i64 x] W fun e w'=>e= .returned (.bool true)/\w'=W):=fun W=>by have:=qq x W;rwa[decide_eq_true hn1] at this
        clear hn1;go_wp2_with (go_at_call 334;refine(HD.out _).mono ?_;rintro e w' ⟨rfl,hw'⟩;obtain rfl:=hw'.symm;clear hw');go_roundw
        case rel=>
         refine⟨j+1,by omega,by go_num,fun i z hi hz=> ?_,trivial⟩;by_cases hij:i=j
         .subst hij
          rw[HX.out] at hz;cases hz;exact⟨iZ.out,by have:=Wh.out;omega⟩
         .exact Ni.out i z (by omega) hz
        case measure=>simp[intOf];omega
       .have cB:Hid (¬Ce.xG l):=fun h=>hn1 (h x (aaJ HX.out)).1
        have HD:Hid (∀W,Calls prog 334 #[.int .i64 x] W fun e w'=>e= .returned (.bool false)/\w'=W):=fun W=>by have:=qq x W;rwa[decide_eq_false hn1] at this
        clear hn1;go_wp2_with (go_at_call 334;refine(HD.out _).mono ?_;rintro e w' ⟨rfl,hw'⟩;obtain rfl:=hw'.symm;clear hw');go_ret;exact⟨Ce.Says.no fun h=>cB.out (h.1 l (aaJ fL.out)),cN.out⟩
     .have LO:¬((j:Int)<(m:Int)):=by omega
      go_wp2;go_roundw
      case rel=>
       refine⟨k+1,by omega,by go_num,fun i z hi hz=> ?_,cN.out⟩;by_cases hik:i=k
       .subst hik
        rw[fL.out] at hz;cases hz;intro x hx;obtain⟨u,hu⟩:=abg hx;exact Ni.out u x (by have:=HM.out;have:=(aaH.1 hu).1;omega) hu
       .exact iB.out i z (by omega) hz
      case measure=>simp[intOf];omega
   .have aP:¬((k:Int)<(n:Int)):=by omega
    obtain rfl:k=n:=by omega
    go_wp2;go_ret;refine⟨Ce.Says.yes ⟨fun l hl=> ?_,by have:=HN.out;omega⟩,cN.out⟩;obtain⟨i,hi⟩:=abg hl;exact iB.out i l (by have:=HN.out;have:=(aaH.1 hi).1;omega) hi
end
end Go.Proofs.YtdbjpbjocmcpkaaGreatDoor
