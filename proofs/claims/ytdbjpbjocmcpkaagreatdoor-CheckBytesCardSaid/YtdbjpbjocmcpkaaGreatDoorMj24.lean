import Derived.Test.YtdbjpbjocmcpkaaGreatDoorCards
import Derived.Test.YtdbjpbjocmcpkaaGreatDoorTie
import Derived.Test.YtdbjpbjocmcpkaaGreatDoorMj08
import Derived.Test.YtdbjpbjocmcpkaaGreatDoorMj03
set_option maxHeartbeats 4000000
set_option maxRecDepth 100000
namespace Go.Proofs.YtdbjpbjocmcpkaaGreatDoor
section
open Go.Proofs.Tryz
open Go.ChangeShapes Go.WideShapes Go.ChangeAt Go.RowKit
theorem afQ:prog.globalNamed "internal/strconv.uint64pow10"=some 0:=by kernel_rfl
theorem SS:(prog.globals[0]?).map (·.type)=some 363:=by kernel_rfl
theorem Tc:prog.cellsOf 363=20:=by kernel_rfl
theorem Tb:prog.cellsOf 269=1:=by kernel_rfl
theorem S6:(Rows.laid_internal_strconv_uint64pow10:DataW Unit)=Lib.tabData .u64 Lib.pow10Tab:=by kernel_rfl
def listed:List (String×DataW Unit):=[("math/bits.deBruijn32tab",Rows.laid_math_bits_deBruijn32tab),("math/bits.deBruijn64tab",Rows.laid_math_bits_deBruijn64tab),("internal/strconv.uint64pow10",Rows.laid_internal_strconv_uint64pow10)]
theorem table {W:World} (h:laidMet prog listed W):lC W:=by
 obtain⟨ps,⟨_,_,_,_,_,_,_,_,_,_,⟨_,_,_,_,_,_,_,_,_,_,⟨g,t,cs,fuel,p,q,hg,ht,aei,hd,_,_⟩,_⟩,_⟩,_⟩:=h;obtain rfl:=aa9 (afQ.symm.trans hg);obtain rfl:=aa9 (SS.symm.trans ht);rw[S6] at hd;unfold lC Lib.TabIs;rw[aei,<-Lib.cells_of_tab Tryz.underlying363 Tryz.underlying269 Tb Tc hd]
def zK:DataW Unit->Array Value
 | .agg l=>(l.map fun
   | .lit (.int k n)=>Value.int k n
   |_=> .bool false).toArray
 |_=> #[]
def rW (c:Array Value):Obj->Obj
 | .cells _ t frozen=> .cells c t frozen
 |o=>o
noncomputable def vX (os:Os):World:=
 { World.holding prog os ⟨#[],#[],[]⟩ with heap:=(((World.holding prog os ⟨#[],#[],[]⟩).heap.modify 0 (rW (zK Rows.laid_internal_strconv_uint64pow10))).modify 1 (rW (zK Rows.laid_math_bits_deBruijn32tab))).modify 2 (rW (zK Rows.laid_math_bits_deBruijn64tab)) }
end
section
open Go.Proofs.Tryz
open Go.RowKit
def dd (u:Nat):List UInt8:=if u=0 then [] else Lib.decDigits u
theorem Em (u:Nat) (h:u≠0):dd u=dd (u/10)++[UInt8.ofNat (48+u%10)]:=by
 unfold dd;rw[if_neg h];by_cases h9:u<10
 .rw[ad9 h9,if_pos (by omega),abE h9]
  rfl
 .rw[if_neg (by omega)]
  conv=>lhs;rw[Lib.decDigits,dif_neg h9]
theorem QN (u:Nat) (h:u≠0):dd u=Lib.decDigits u:=by unfold dd;rw[if_neg h]
theorem j8 (x:Nat) (hx:x<256) (W:World):
 (convert 35 9 (.slice (some ⟨W.heap.size,0,none⟩) 1 1)).run prog (W.alloc (.cells #[.int .u8 (x:Int)] 5))= .ok (.string ⟨#[UInt8.ofNat x]⟩) (W.alloc (.cells #[.int .u8 (x:Int)] 5)):=by
 refine run_convert_bytes_back (P:=prog) _ 35 9 5 ⟨W.heap.size,0,none⟩ 1 [UInt8.ofNat x] Tryz.underlying35 Tryz.underlying5 Tryz.underlying9 ?_;intro j hj;simp at hj;subst hj;simp[Addr.add,World.cell?_alloc_at];omega
theorem Iq (m:Nat) (hm:0<m) (h1:(m:Int)<=9223372036854775807) (w:World):
 Calls prog 58 #[.int .i64 m] w fun e w'=>e= .returned (.string ⟨(Lib.decDigits m).toArray⟩)/\w.grownBy w' none:=by
 have j0:((m:Int)==0)=false:=by simp;omega
 have hlen:=ad1 (m:Int) (by omega) h1;rw[aeM] at hlen;have HLEN:=ζ hlen;clear hlen;go_enter func58,ntmps58;go_wp2;go_loopw [3,4] (fun s c wr=>∃(k:Nat) (l:List UInt8),k<=m/\Lib.decDigits m=dd k++l/\c= .int .i64 k/\s= .string ⟨l.toArray⟩/\w.grownBy wr none) (fun _ c _=>(intOf c).toNat)
 case atStart=>exact⟨m,[],aaF _,by rw[QN m (by omega)];simp,rfl,rfl,acg _ _⟩
 case round=>
  obtain⟨k,l,hk,hd,rfl,rfl,hg⟩:=hrel;have eB:l.length<=21:=by
   have:=congrArg List.length hd;rw[aaZ] at this;have:=HLEN.out;omega
  have HD:=ζ hd;clear hd;by_cases hz:k=0
  .subst hz
   go_wp2;go_ret;refine⟨?_,hg⟩;rw[HD.out];rfl
  .have j1:((k:Int) != 0)=true:=by simp;omega
   have hk0:(0:Int)<=(k:Int):=by omega
   have hk1:(k:Int)<=9223372036854775807:=by omega
   have kc:∀W:World,(convert 35 9 (.slice (some ⟨W.heap.size,0,none⟩) 1 1)).run prog (W.alloc (.cells #[.int .u8 (48+(k:Int)%10)] 5))= .ok (.string ⟨#[UInt8.ofNat (48+k%10)]⟩) (W.alloc (.cells #[.int .u8 (48+(k:Int)%10)] 5)):=fun W=>by
    have h:=j8 (48+k%10) (by omega) W;rw[show((48+k%10:Nat):Int)=48+(k:Int)%10 by omega] at h;exact h
   go_wp2;go_roundw
   case rel=>
    refine⟨k/10,UInt8.ofNat (48+k%10)::l,by omega,?_,by go_num,?_,bO hg _⟩
    .rw[HD.out,Em k hz];simp
    .simp[ac4]
   case measure=>simp[intOf];omega
theorem Ir (m:Nat) (hm:0<m) (h1:(m:Int)<=9223372036854775808) (w:World):
 Calls prog 58 #[.int .i64 (-(m:Int))] w fun e w'=>e= .returned (.string ⟨(45::Lib.decDigits m).toArray⟩)/\w.grownBy w' none:=by
 have j0:(-(m:Int)==0)=false:=by simp;omega
 have j2: -(m:Int)<0:=by omega
 have hlen:=ad1 (-(m:Int)) (by omega) (by omega);rw[Lib.itoa_neg m hm] at hlen;have HLEN:=ζ hlen;clear hlen;go_enter func58,ntmps58;go_wp2;go_loopw [3,4] (fun s c wr=>∃(k:Nat) (l:List UInt8),k<=m/\Lib.decDigits m=dd k++l/\c= .int .i64 (-(k:Int))/\s= .string ⟨l.toArray⟩/\w.grownBy wr none) (fun _ c _=>(intOf c).natAbs)
 case atStart=>exact⟨m,[],aaF _,by rw[QN m (by omega)];simp,rfl,rfl,acg _ _⟩
 case round=>
  obtain⟨k,l,hk,hd,rfl,rfl,hg⟩:=hrel;have eB:l.length<=21:=by
   have:=congrArg List.length hd;rw[aaZ] at this;have:=HLEN.out;simp at this;omega
  have HD:=ζ hd;clear hd;by_cases hz:k=0
  .subst hz
   go_wp2;go_ret;refine⟨?_,hg⟩;rw[HD.out];simp[ac4,dd]
  .have j1:(-(k:Int) != 0)=true:=by simp;omega
   have kc:∀W:World,(convert 35 9 (.slice (some ⟨W.heap.size,0,none⟩) 1 1)).run prog (W.alloc (.cells #[.int .u8 (48+(k:Int)%10)] 5))= .ok (.string ⟨#[UInt8.ofNat (48+k%10)]⟩) (W.alloc (.cells #[.int .u8 (48+(k:Int)%10)] 5)):=fun W=>by
    have h:=j8 (48+k%10) (by omega) W;rw[show((48+k%10:Nat):Int)=48+(k:Int)%10 by omega] at h;exact h
   by_cases hmod:k%10=0
   .have kc0:∀W:World,(convert 35 9 (.slice (some ⟨W.heap.size,0,none⟩) 1 1)).run prog (W.alloc (.cells #[.int .u8 (48+ -((k:Int)%10))] 5))= .ok (.string ⟨#[UInt8.ofNat 48]⟩) (W.alloc (.cells #[.int .u8 (48+ -((k:Int)%10))] 5)):=fun W=>by
     have h:=j8 48 (by omega) W;rw[show((48:Nat):Int)=48+ -((k:Int)%10) by omega] at h;exact h
    have hm0:(k:Int)%10<=0:=by omega
    have HM:=ζ hmod;clear hmod kc;go_wp2;go_roundw
    case rel=>
     refine⟨k/10,UInt8.ofNat (48+k%10)::l,by omega,?_,by go_num,?_,bO hg _⟩
     .rw[HD.out,Em k hz];simp
     .rw[HM.out];simp[ac4]
    case measure=>simp[intOf];omega
   .have hm0:0<(k:Int)%10:=by omega
    clear hmod;go_wp2;go_roundw
    case rel=>
     refine⟨k/10,UInt8.ofNat (48+k%10)::l,by omega,?_,by go_num,?_,bO hg _⟩
     .rw[HD.out,Em k hz];simp
     .simp[ac4]
    case measure=>simp[intOf];omega
theorem Ff (w:World):
 Calls prog 58 #[.int .i64 0] w fun e w'=>e= .returned (.string ⟨(Lib.itoa 0).toArray⟩)/\w.grownBy w' none:=by
 have e0:Lib.itoa 0=[48]:=by decide +kernel
 rw[e0];go_enter func58,ntmps58;go_wp2;go_ret;exact⟨rfl,acg _ _⟩
theorem Iu (n:Int) (h0: -9223372036854775808<=n) (h1:n<=9223372036854775807) (w:World):
 Calls prog 58 #[.int .i64 n] w fun e w'=>e= .returned (.string ⟨(Lib.itoa n).toArray⟩)/\w.grownBy w' none:=by
 rcases Int.lt_trichotomy n 0 with h|h|h
 .obtain⟨m,rfl⟩:∃m:Nat,n= -(m:Int):=⟨n.natAbs,by omega⟩
  rw[Lib.itoa_neg m (by omega)];exact Ir m (by omega) (by omega) w
 .subst h
  exact Ff w
 .obtain⟨m,rfl⟩:∃m:Nat,n=(m:Int):=⟨n.toNat,by omega⟩
  rw[aeM];exact Iq m (by omega) h1 w
end
section
open Go.RowKit
structure fq (w:World) (pl:Bool) (ao eo:Option Addr) (na ca ne ce:Nat) (v:Value) (L:List UInt8) (W:World):Prop where
 low:Below w.heap.size w W
 box:W.heap[w.heap.size]? =some (.cells #[.bool pl,.slice ao na ca,.slice eo ne ce] 27 (0,0))
 pZ:Ce.wU W (w.heap.size+1) v L
section
variable {w W W':World} {pl:Bool} {ao eo:Option Addr} {na ca ne ce:Nat} {v:Value} {L:List UInt8}
theorem Ce.wU.lt {B:Nat} (h:Ce.wU W B v L) (b:Nat) (hb:v.ownBlock=some b):B<=b/\b<W.heap.size:=aaO h b hb
theorem fq.start:fq w pl ao eo na ca ne ce (.slice none 0 0) [] (w.alloc (.cells #[.bool pl,.slice ao na ca,.slice eo ne ce] 27)):=
 ⟨(aaG _ _).alloc (aaF _) _,heap_alloc_new w _,Ce.wU.nil _ _⟩
theorem fq.later (h:fq w pl ao eo na ca ne ce v L W) (hb:Below W.heap.size W W'):fq w pl ao eo na ca ne ce v L W':=
 ⟨h.low.trans (hb.mono h.low.size),(hb.block _ (lt_of_block h.box)).trans h.box,by
   refine⟨h.pZ.1,?_⟩;rcases h.pZ.2 with h1|⟨g,cap,cur,e,hgB,hh,hr⟩
   .exact .inl h1
   .exact .inr ⟨g,cap,cur,e,hgB,(hb.block _ (lt_of_block hh)).trans hh,hr⟩⟩
theorem fq.size (h:fq w pl ao eo na ca ne ce v L W):w.heap.size+1<=W.heap.size:=lt_of_block h.box
theorem fq.grown (h:fq w pl ao eo na ca ne ce v L W) {v':Value} {L':List UInt8} (h1:Ce.wU W' (w.heap.size+1) v' L') (h2:W.grownBy W' v.ownBlock):fq w pl ao eo na ca ne ce v' L' W':=by
 have ot:some w.heap.size≠v.ownBlock:=fun e=>by have:=(h.pZ.lt _ e.symm).1;omega
 refine⟨?_,(h2.block _ (lt_of_block h.box) ot).trans h.box,h1⟩;exact h.low.grown h2 (by have:=h.size;omega) (fun b hb=>by have:=(h.pZ.lt b hb).1;omega)
theorem fq.cells (h:fq w pl ao eo na ca ne ce v L W):W.cell? ⟨w.heap.size,0,none⟩=some (.bool pl)/\W.cell? ⟨w.heap.size,1,none⟩=some (.slice ao na ca)/\W.cell? ⟨w.heap.size,2,none⟩=some (.slice eo ne ce)/\∀i,W.frozen? ⟨w.heap.size,i,none⟩=false:=bF h.box
theorem fq.form (h:fq w pl ao eo na ca ne ce v L W):∃vo vc,v= .slice vo L.length vc:=by
 rcases h.pZ.2 with ⟨rfl,h0⟩|⟨g,cap,cur,rfl,-⟩
 .exact⟨none,0,by rw[h0]⟩
 .exact⟨_,_,rfl⟩
theorem fq.read (h:fq w pl ao eo na ca ne ce v L W) {vo:Option Addr} {vc:Nat} (hv:v= .slice vo L.length vc) (j:Nat) (hj:j<L.length):∃g,vo=some ⟨g,0,none⟩/\W.cell? ⟨g,j,none⟩=some (.int .u8 (L[j].toNat:Int)):=by
 rcases h.pZ.2 with ⟨-,h0⟩|⟨g,cap,cur,e,hB,hh,hl,hc,hs,ht⟩
 .omega
 .rw[hv] at e
  cases e;refine⟨g,rfl,?_⟩;rw[cell_of_row W g j cur _ _ hh];have h1:(cur.toList.take (L.length*1))[j]? =(Lib.byteCells L)[j]? :=by rw[ht]
  rw[acf,if_pos (by omega)] at h1;rw[<-Array.getElem?_toList,h1];simp[Lib.byteCells,hj]
end
theorem rY {x:Int} (h:Ce.dR x) (w:World):Calls Tryz.prog 58 #[.int .i64 x] w fun e w'=>e= .returned (.string ⟨(Ce.dg x).toArray⟩)/\Below w.heap.size w w':=by
 obtain⟨m,rfl⟩:∃m:Nat,x=(m:Int):=⟨x.toNat,by have:=h.1;omega⟩;have h1:=h.2;refine(Iu (m:Int) (by omega) (by omega) w).mono ?_;rintro e w' ⟨rfl,hg⟩;refine⟨?_,(aaG _ _).grown hg (aaF _) (fun k hk=>by cases hk)⟩;rw[aeM];rfl
end
section
open Go.Proofs.Tryz
open Go.RowKit
theorem mZ {x:Int} (h:Ce.dR x) (w:World):Calls prog 99 #[.int .i64 x] w fun e w'=>e= .returned (.bool true)/\w'=w:=by
 obtain⟨h0,h1⟩:=h;go_enter func99,ntmps99;go_wp2;go_ret;exact⟨rfl,rfl⟩
theorem oK {x:Int} (h:¬Ce.dR x) (w:World):Calls prog 99 #[.int .i64 x] w fun e w'=>e= .returned (.bool false)/\w'=w:=by
 unfold Ce.dR at h;by_cases h0:0<=x
 .have h1:¬x<=999999999:=fun h1=>h ⟨h0,h1⟩
  clear h;go_enter func99,ntmps99;go_wp2;go_ret;exact⟨rfl,rfl⟩
 .clear h
  go_enter func99,ntmps99;go_wp2;go_ret;exact⟨rfl,rfl⟩
theorem vq {w:World} {ao:Option Addr} {c:Nat} {ls:List (List Int)} (h:Ce.iy w ao ls) (hs:ls.length<=4611686018427387904) (hl:∀l∈ls,l.length<=4611686018427387904):
 Calls prog 56 #[.slice ao ls.length c] w fun e w'=>Ce.Says e (Ce.AR ls)/\Below w.heap.size w w':=by
 obtain⟨n,hn⟩:∃n,ls.length=n:=⟨_,rfl⟩;rw[hn] at hs ⊢;have HS:=ζ h;have HL:=ζ hl;have HN:=ζ hn;clear h hl hn;go_enter func56,ntmps56;go_wp2;go_loopw [3] (fun iv wr=>∃k:Nat,k<=n/\iv= .int .i64 (k:Int)/\(∀i l,i<k->ls[i]? =some l->Ce.xG l)/\Below w.heap.size w wr) (fun iv _=>n-(intOf iv).toNat)
 case atStart=>exact⟨0,aaR _,rfl,fun i l h=>by omega,aaG _ _⟩
 case round=>
  obtain⟨k,hk,rfl,hok,dA⟩:=hrel;have iB:=ζ hok;have cN:=ζ dA;clear hok dA;by_cases hlt:k<n
  .have aP:(k:Int)<(n:Int):=by omega
   obtain⟨l,hl⟩:∃l,ls[k]? =some l:=⟨_,aaE (by have:=HN.out;omega)⟩;have eB:=HL.out l (aaJ hl);obtain⟨m,hm⟩:∃m,l.length=m:=⟨_,rfl⟩;have fL:=ζ hl;have HM:=ζ hm;rw[hm] at eB;clear hl hm;go_wp2;go_loopw [4] (fun jv wr=>∃j:Nat,j<=m/\jv= .int .i64 (j:Int)/\(∀i x,i<j->l[i]? =some x->Ce.dR x/\l.headD 0<=x)/\Below w.heap.size w wr) (fun jv _=>m-(intOf jv).toNat)
   case atStart=>exact⟨0,aaR _,rfl,fun i x h=>by omega,cN.out⟩
   case round=>
    obtain⟨j,hj,rfl,LJ,Vw⟩:=hrel;obtain⟨b,o,xa,xc,rfl,c0,qG⟩:=(HS.out.later Vw) k l fL.out;rw[HM.out] at c0;have Ni:=ζ LJ;have aA:=ζ Vw;have hbl:=block_lt_of_cell c0;have k0:(0:Int)<=(k:Int):=by omega
    have j0:(0:Int)<=(j:Int):=by omega
    clear LJ Vw;by_cases hjm:j<m
    .have LO:(j:Int)<(m:Int):=by omega
     have hm0:(0:Int)<(m:Int):=by omega
     obtain⟨x,hx⟩:∃x,l[j]? =some x:=⟨_,aaE (by have:=HM.out;omega)⟩;obtain⟨y,hy⟩:∃y,l[0]? =some y:=⟨_,aaE (by have:=HM.out;omega)⟩;have hy0:l.headD 0=y:=by
      cases l with
      |nil=>cases hy
      |cons a r=>cases hy;rfl
     obtain⟨xb,xo,rfl,d0⟩:=qG j x hx;obtain⟨xb',xo',e',d1⟩:=qG 0 y hy;cases e';rw[abG] at d1;have b7:=block_lt_of_cell d0;have HX:=ζ hx;have Wh:=ζ hy0;clear hx hy hy0 qG;by_cases hn1:Ce.dR x
     .have F6:Hid (∀W,Calls prog 99 #[.int .i64 x] W fun e w'=>e= .returned (.bool true)/\w'=W):=fun W=>mZ hn1 W
      by_cases hxy:x<y
      .have cB:Hid (¬Ce.xG l):=fun h=>by
        have:=(h x (aaJ HX.out)).2;have:=Wh.out;omega
       clear hn1;go_wp2_with fail;go_quiet ((go_at_call 99;exact abw (F6.out _)));go_wp2;go_ret;exact⟨Ce.Says.no fun h=>cB.out (h.1 l (aaJ fL.out)),below_drewN aA.out _⟩
      .have iZ:=ζ hn1
       clear hn1;go_wp2_with fail;go_quiet ((go_at_call 99;exact abw (F6.out _)));go_wp2;go_roundw
       case rel=>
        refine⟨j+1,by omega,by go_num,fun i z hi hz=> ?_,below_drewN aA.out _⟩;by_cases hij:i=j
        .subst hij
         rw[HX.out] at hz;cases hz;exact⟨iZ.out,by have:=Wh.out;omega⟩
        .exact Ni.out i z (by omega) hz
       case measure=>simp[intOf];omega
     .have F6:Hid (∀W,Calls prog 99 #[.int .i64 x] W fun e w'=>e= .returned (.bool false)/\w'=W):=fun W=>oK hn1 W
      have cB:Hid (¬Ce.xG l):=fun h=>hn1 (h x (aaJ HX.out)).1
      clear hn1;go_wp2_with fail;go_quiet ((go_at_call 99;exact abw (F6.out _)));go_wp2;go_ret;exact⟨Ce.Says.no fun h=>cB.out (h.1 l (aaJ fL.out)),below_drewN aA.out _⟩
    .have LO:¬((j:Int)<(m:Int)):=by omega
     clear qG;go_wp2;go_roundw
     case rel=>
      refine⟨k+1,by omega,by go_num,fun i z hi hz=> ?_,aA.out⟩;by_cases hik:i=k
      .subst hik
       rw[fL.out] at hz;cases hz;intro x hx;obtain⟨u,hu⟩:=abg hx;exact Ni.out u x (by have:=HM.out;have:=(aaH.1 hu).1;omega) hu
      .exact iB.out i z (by omega) hz
     case measure=>simp[intOf];omega
  .have aP:¬((k:Int)<(n:Int)):=by omega
   obtain rfl:k=n:=by omega
   by_cases hc:k<=1048576
   .have uP:(k:Int)<=1048576:=by omega
    go_wp2;go_ret;refine⟨Ce.Says.yes ⟨fun l hl=> ?_,by have:=HN.out;omega⟩,cN.out⟩;obtain⟨i,hi⟩:=abg hl;exact iB.out i l (by have:=HN.out;have:=(aaH.1 hi).1;omega) hi
   .have uP:¬((k:Int)<=1048576):=by omega
    go_wp2;go_ret;exact⟨Ce.Says.no fun h=>hc (by have:=HN.out;have:=h.2;omega),cN.out⟩
end
section
open Go.Proofs.Tryz
open Go.RowKit
theorem vr {w:World} {ao:Option Addr} {c:Nat} {es:List (Int×Int)} (h:ah w ao es) (hs:es.length<=4611686018427387904):
 Calls prog 57 #[.slice ao es.length c] w fun e w'=>Ce.Says e (Ce.lZ es)/\Below w.heap.size w w':=by
 obtain⟨n,hn⟩:∃n,es.length=n:=⟨_,rfl⟩;rw[hn] at hs ⊢;have HS:=ζ h;have HN:=ζ hn;clear h hn;go_enter func57,ntmps57;go_wp2;go_loopw [3] (fun iv wr=>∃k:Nat,k<=n/\iv= .int .i64 (k:Int)/\(∀i p,i<k->es[i]? =some p->Ce.dR p.1/\Ce.dR p.2/\p.1<p.2)/\(∀i p q,i+1<k->es[i]? =some p->es[i+1]? =some q->p.1<q.1\/(p.1=q.1/\p.2<q.2))/\Below w.heap.size w wr) (fun iv _=>n-(intOf iv).toNat)
 case atStart=>exact⟨0,aaR _,rfl,fun i p h=>by omega,fun i p q h=>by omega,aaG _ _⟩
 case round=>
  obtain⟨k,hk,rfl,hok,rL,dA⟩:=hrel;have iB:=ζ hok;have HOR:=ζ rL;have cN:=ζ dA;clear hok rL;by_cases hlt:k<n
  .have aP:(k:Int)<(n:Int):=by omega
   have k0:(0:Int)<=(k:Int):=by omega
   obtain⟨⟨u,v⟩,hp⟩:∃p,es[k]? =some p:=⟨_,aaE (by have:=HN.out;omega)⟩;have hat:=HS.out.later dA;obtain⟨b,o,rfl,c0,c1⟩:=hat k (u,v) hp;dsimp only at c0 c1;have hbl:=block_lt_of_cell c0;have HP:=ζ hp;have Am:=ζ hat;clear hp hat dA;have Xk:Hid (¬(Ce.dR u/\Ce.dR v/\u<v)->¬Ce.lZ es):=fun h1 h2=>h1 (h2.1.1 _ (aaJ HP.out))
   by_cases hu:Ce.dR u
   .have HU:Hid (∀W,Calls prog 99 #[.int .i64 u] W fun e w'=>e= .returned (.bool true)/\w'=W):=fun W=>mZ hu W
    by_cases hv:Ce.dR v
    .have HV:Hid (∀W,Calls prog 99 #[.int .i64 v] W fun e w'=>e= .returned (.bool true)/\w'=W):=fun W=>mZ hv W
     by_cases huv:v<=u
     .have cB:Hid (¬Ce.lZ es):=Xk.out (fun h=>absurd h.2.2 (by omega))
      clear hu hv;go_wp2_with fail;go_quiet (first|(go_at_call 99;exact abw (HU.out _))|(go_at_call 99;exact abw (HV.out _)));go_wp2;go_ret;exact⟨Ce.Says.no cB.out,below_drewN cN.out _⟩
     .have HE:Hid (Ce.dR u/\Ce.dR v/\u<v):=⟨hu,hv,by omega⟩
      clear hu hv;have hnew:Hid (∀i p,i<k+1->es[i]? =some p->Ce.dR p.1/\Ce.dR p.2/\p.1<p.2):=fun i p hi hp=>by
       by_cases hik:i=k
       .subst hik
        rw[HP.out] at hp;cases hp;exact HE.out
       .exact iB.out i p (by omega) hp
      go_wp2_with fail;go_quiet (first|(go_at_call 99;exact abw (HU.out _))|(go_at_call 99;exact abw (HV.out _)));go_wp2_with fail;by_cases hk0:k=0
      .have m3:¬((0:Int)<(k:Int)):=by omega
       have RX:¬(0<k):=by omega
       have m3c:decide (0<k)=false:=decide_eq_false RX;have Nq:=ζ hk0;clear hk0;go_quiet (fail);go_wp2;go_roundw
       case rel=>exact⟨k+1,by omega,by go_num,hnew.out,fun i p q hi=>absurd Nq.out (by omega),by first|exact below_drewN cN.out _|exact below_drewN (below_drewN cN.out _) _⟩
       case measure=>simp[intOf];omega
      .obtain⟨m,rfl⟩:∃m,k=m+1:=⟨k-1,by omega⟩
       obtain⟨⟨a,z⟩,hp⟩:∃p,es[m]? =some p:=⟨_,aaE (by have:=HN.out;omega)⟩;obtain⟨b',o',e',d0,d1⟩:=Am.out m (a,z) hp;cases e';dsimp only at d0 d1;have HQ:=ζ hp;clear hp;have m0:(0:Int)<=((m+1:Nat):Int)-1:=by omega
       have m1:((m+1:Nat):Int)-1<(n:Int):=by omega
       have m2:((m+1:Nat):Int)-1=(m:Int):=by omega
       have m3:(0:Int)<((m+1:Nat):Int):=by omega
       have m4:(0:Int)<=(m:Int):=by omega
       have m5:(m:Int)<(n:Int):=by omega
       have m6:(m:Int)<=9223372036854775807:=by omega
       have m8:(m:Int)+1<(n:Int):=by omega
       have m9:(0:Int)<=(m:Int)+1:=by omega
       have m10:(0:Int)<(m:Int)+1:=by omega
       by_cases g1:u<a
       .have cB:Hid (¬Ce.lZ es):=fun h=>(by have:=h.1.2 m (a,z) (u,v) HQ.out HP.out;dsimp only at this;omega)
        go_quiet (fail);go_wp2;go_ret;exact⟨Ce.Says.no cB.out,by first|exact below_drewN cN.out _|exact below_drewN (below_drewN cN.out _) _⟩
       .by_cases g2:a=u
        .have t2:(a==u)=true:=by simp[g2]
         by_cases g3:v<=z
         .have cB:Hid (¬Ce.lZ es):=fun h=>(by have:=h.1.2 m (a,z) (u,v) HQ.out HP.out;dsimp only at this;omega)
          have g4:v<=z:=g3;go_quiet (fail);go_wp2;go_ret;exact⟨Ce.Says.no cB.out,by first|exact below_drewN cN.out _|exact below_drewN (below_drewN cN.out _) _⟩
         .have HW:Hid (a<u\/(a=u/\z<v)):= .inr ⟨g2,by omega⟩
          go_quiet (fail);go_wp2;go_roundw
          case rel=>
           refine⟨m+1+1,by omega,by go_num,hnew.out,fun i p q hi hp hq=> ?_,by first|exact below_drewN cN.out _|exact below_drewN (below_drewN cN.out _) _⟩;by_cases him:i=m
           .subst him
            rw[HQ.out] at hp;rw[HP.out] at hq;cases hp;cases hq;exact HW.out
           .exact HOR.out i p q (by omega) hp hq
          case measure=>simp[intOf];omega
        .have t2:(a==u)=false:=by simp[g2]
         have HW:Hid (a<u\/(a=u/\z<v)):= .inl (by omega);go_quiet (fail);go_wp2;go_roundw
         case rel=>
          refine⟨m+1+1,by omega,by go_num,hnew.out,fun i p q hi hp hq=> ?_,by first|exact below_drewN cN.out _|exact below_drewN (below_drewN cN.out _) _⟩;by_cases him:i=m
          .subst him
           rw[HQ.out] at hp;rw[HP.out] at hq;cases hp;cases hq;exact HW.out
          .exact HOR.out i p q (by omega) hp hq
         case measure=>simp[intOf];omega
    .have HV:Hid (∀W,Calls prog 99 #[.int .i64 v] W fun e w'=>e= .returned (.bool false)/\w'=W):=fun W=>oK hv W
     have cB:Hid (¬Ce.lZ es):=Xk.out (fun h=>hv h.2.1);clear hu hv;go_wp2_with fail;go_quiet (first|(go_at_call 99;exact abw (HU.out _))|(go_at_call 99;exact abw (HV.out _)));go_wp2;go_ret;exact⟨Ce.Says.no cB.out,below_drewN cN.out _⟩
   .have HU:Hid (∀W,Calls prog 99 #[.int .i64 u] W fun e w'=>e= .returned (.bool false)/\w'=W):=fun W=>oK hu W
    have cB:Hid (¬Ce.lZ es):=Xk.out (fun h=>hu h.1);clear hu;go_wp2_with fail;go_quiet ((go_at_call 99;exact abw (HU.out _)));go_wp2;go_ret;exact⟨Ce.Says.no cB.out,below_drewN cN.out _⟩
  .have aP:¬((k:Int)<(n:Int)):=by omega
   obtain rfl:k=n:=by omega
   by_cases hc:k<=4194304
   .have uP:(k:Int)<=4194304:=by omega
    go_wp2;go_ret;refine⟨Ce.Says.yes ⟨⟨fun p hp=> ?_,fun i p q hp hq=> ?_⟩,by have:=HN.out;omega⟩,cN.out⟩
    .obtain⟨i,hi⟩:=abg hp
     exact iB.out i p (by have:=HN.out;have:=(aaH.1 hi).1;omega) hi
    .exact HOR.out i p q (by have:=HN.out;have:=(aaH.1 hq).1;omega) hp hq
   .have uP:¬((k:Int)<=4194304):=by omega
    go_wp2;go_ret;exact⟨Ce.Says.no fun h=>hc (by have:=HN.out;have:=h.2;omega),cN.out⟩
end
section
open Go.Proofs.Tryz
open Go.RowKit
theorem Fb {w:World} {c:Ce.Cert} {ao eo:Option Addr} {ca ce:Nat} (ha:Ce.iy w ao c.ar) (he:ah w eo c.es) (h1:c.ar.length<=4611686018427387904) (h2:c.es.length<=4611686018427387904) (hl:∀l∈c.ar,l.length<=4611686018427387904) (hg:¬Ce.good c):
 Calls prog 30 #[.agg #[.bool c.pl,.slice ao c.ar.length ca,.slice eo c.es.length ce]] w fun e w'=>e= .returned (.tuple #[.string ⟨#[]⟩,.int .i64 170])/\Below w.heap.size w w':=by
 obtain⟨pl,ar,es⟩:=c;dsimp only at ha he h1 h2 hl ⊢;have HS:=ζ (fq.start (w:=w) (pl:=pl) (ao:=ao) (eo:=eo) (na:=ar.length) (ca:=ca) (ne:=es.length) (ce:=ce));have HA:Hid (∀W,Below w.heap.size w W->Calls prog 56 #[.slice ao ar.length ca] W fun e w'=>Ce.Says e (Ce.AR ar)/\Below W.heap.size W w'):=fun W hW=>vq (ha.later hW) h1 hl
 have HE:Hid (∀W,Below w.heap.size w W->Calls prog 57 #[.slice eo es.length ce] W fun e w'=>Ce.Says e (Ce.lZ es)/\Below W.heap.size W w'):=fun W hW=>vr (he.later hW) h2
 clear ha he hl;obtain⟨n,hn⟩:∃n,ar.length=n:=⟨_,rfl⟩;obtain⟨m,hm⟩:∃m,es.length=m:=⟨_,rfl⟩;rw[hn] at HS HA h1 ⊢;rw[hm] at HS HE h2 ⊢;obtain⟨v0,v1,v2,vf⟩:=HS.out.cells;cases pl with
 |true=>
  by_cases hm0:0<m
  .have Yf:(0:Int)<(m:Int):=by omega
   have HB:=ζ HS.out.low;clear hg hn hm;go_enter func30,ntmps30;go_wp2;go_ret2;exact⟨rfl,HB.out⟩
  .have Yf:¬((0:Int)<(m:Int)):=by omega
   have hno:¬Ce.AR ar:=fun h=>hg (by
    unfold Ce.good;rw[if_pos rfl];exact⟨abY.1 (by show es.length=0;omega),h⟩)
   have HA1:Hid (Calls prog 56 #[.slice ao n ca] (w.alloc (.cells #[.bool true,.slice ao n ca,.slice eo m ce] 27)) fun e w'=>e= .returned (.bool false)/\fq w true ao eo n ca m ce (.slice none 0 0) [] w'):=(HA.out _ HS.out.low).mono (by
    rintro e w' ⟨⟨t,he,ht⟩,hb⟩;refine⟨?_,HS.out.later hb⟩;rw[he];cases t with
    |true=>exact absurd (ht.1 rfl) hno
    |false=>rfl)
   clear hg hn hm hno;go_enter func30,ntmps30;go_wp2_with (go_at_call 56;refine HA1.out.mono ?_;rintro e w1 ⟨rfl,hp⟩;have HP:=ζ hp;clear hp v0 v1 v2 vf;obtain⟨v0,v1,v2,vf⟩:=HP.out.cells);go_ret2;exact⟨rfl,HP.out.low⟩
 |false=>
  by_cases hn0:0<n
  .have hni:(0:Int)<(n:Int):=by omega
   have HB:=ζ HS.out.low;clear hg hn hm;go_enter func30,ntmps30;go_wp2;go_ret2;exact⟨rfl,HB.out⟩
  .have hni:¬((0:Int)<(n:Int)):=by omega
   have hno:¬Ce.lZ es:=fun h=>hg (by
    unfold Ce.good;rw[if_neg (by simp)];exact⟨abY.1 (by show ar.length=0;omega),h⟩)
   have Aj:Hid (Calls prog 57 #[.slice eo m ce] (w.alloc (.cells #[.bool false,.slice ao n ca,.slice eo m ce] 27)) fun e w'=>e= .returned (.bool false)/\fq w false ao eo n ca m ce (.slice none 0 0) [] w'):=(HE.out _ HS.out.low).mono (by
    rintro e w' ⟨⟨t,he,ht⟩,hb⟩;refine⟨?_,HS.out.later hb⟩;rw[he];cases t with
    |true=>exact absurd (ht.1 rfl) hno
    |false=>rfl)
   clear hg hn hm hno;go_enter func30,ntmps30;go_wp2_with (go_at_call 57;refine Aj.out.mono ?_;rintro e w1 ⟨rfl,hp⟩;have HP:=ζ hp;clear hp v0 v1 v2 vf;obtain⟨v0,v1,v2,vf⟩:=HP.out.cells);go_ret2;exact⟨rfl,HP.out.low⟩
end
section
open Go.Proofs.Tryz
open Go.RowKit
theorem fq.conv {w W:World} {pl:Bool} {ao eo:Option Addr} {na ca ne ce:Nat} {v:Value} {T:List UInt8} (h:fq w pl ao eo na ca ne ce v T W) (h0:0<T.length):∃g vc,v= .slice (some ⟨g,0,none⟩) T.length vc/\(convert 35 9 v).run prog W= .ok (.string ⟨T.toArray⟩) W:=by
 obtain⟨vo,vc,hv⟩:=h.form;obtain⟨g,rfl,-⟩:=h.read hv 0 h0;refine⟨g,vc,hv,?_⟩;rw[hv];refine run_convert_bytes_back (P:=prog) _ 35 9 5 ⟨g,0,none⟩ vc T Tryz.underlying35 Tryz.underlying5 Tryz.underlying9 ?_;intro j hj;obtain⟨g',e,hc⟩:=h.read hv j hj;cases e;have ea:((⟨g,0,none⟩:Addr).add j)=⟨g,j,none⟩:=by unfold Addr.add;split<;>simp_all
 rw[ea];exact hc
theorem BI {w:World} {es:List (Int×Int)} {ao eo:Option Addr} {n ca ce:Nat} (he:ah w eo es) (hn:n=0) (hg:Ce.lZ es) (T:List UInt8) (hT:Ce.dI ⟨false,[],es⟩=T) (oP:T.length<=70368744177664):
 Calls prog 30 #[.agg #[.bool false,.slice ao n ca,.slice eo es.length ce]] w fun e w'=>Tm T e/\Below w.heap.size w w':=by
 subst hn;have HS:=ζ (fq.start (w:=w) (pl:=false) (ao:=ao) (eo:=eo) (na:=0) (ca:=ca) (ne:=es.length) (ce:=ce));have h2:es.length<=4611686018427387904:=by have:=hg.2;omega
 have Aj:Hid (Calls prog 57 #[.slice eo es.length ce] (w.alloc (.cells #[.bool false,.slice ao 0 ca,.slice eo es.length ce] 27)) fun e w'=>e= .returned (.bool true)/\fq w false ao eo 0 ca es.length ce (.slice none 0 0) [] w'):=(vr (he.later HS.out.low) h2).mono (by
  rintro e w' ⟨⟨t,he,ht⟩,hb⟩;refine⟨?_,HS.out.later hb⟩;rw[he];cases t with
  |true=>rfl
  |false=>exact absurd (ht.2 hg) ad0)
 obtain⟨m,hm⟩:∃m,es.length=m:=⟨_,rfl⟩;have hms:m<=4194304:=by have:=hg.2;omega
 have hok:Ce.dR (m:Int):=⟨by omega,by omega⟩;obtain⟨D,hD⟩:∃D,Ce.dg (m:Int)=D:=⟨_,rfl⟩;have hDl:D.length<=9:=by rw[<-hD];exact Ce.uu hok
 have HTX:Hid (∀W,Calls prog 58 #[.int .i64 (m:Int)] W fun e w'=>e= .returned (.string ⟨D.toArray⟩)/\Below W.heap.size W w'):=fun W=>by rw[<-hD];exact rY hok W
 have PT:Hid ([110,32]++D++[10]++(es.drop 0).flatMap Ce.gD=T):=by
  refine ζ ?_;rw[<-hT,<-hD,<-hm];simp[Ce.dI,Ce.Er,Ce.qT]
 have HG:=ζ hg;have HEs:=ζ he;have HM:=ζ hm;have Ab:=ζ oP;rw[hm] at HS Aj h2 ⊢;obtain⟨v0,v1,v2,vf⟩:=HS.out.cells;clear he hg hT oP hm hok hD;go_enter func30,ntmps30;have nR:([]:List UInt8).length+([110,32]:List UInt8).length<=140737488355328:=by simp
 go_wp2_with (first|(go_at_call 57;refine Aj.out.mono ?_;rintro e w0 ⟨rfl,hp⟩;have HP:=ζ hp;clear hp v0 v1 v2 vf;obtain⟨v0,v1,v2,vf⟩:=HP.out.cells)|(at_builtin;refine cR rfl _ _ rfl _ (w.heap.size+1) _ _ [110,32] HP.out.pZ HP.out.size nR rfl _ rfl rfl ?_;refine aaI ?_));refine ζ ?_;intro x1 w1 qa qb;have hh:=(HP.out.later ((aaG _ _).alloc (aaF _) _)).grown qa qb;have aD:Hid (fq w false ao eo 0 ca m ce x1 ([]++[110,32]) w1):=ζ (by first|exact hh|(simp only[abb,abl,abp] at hh ⊢;exact hh));clear qa qb hh nR;clear v0 v1 v2 vf;obtain⟨v0,v1,v2,vf⟩:=aD.out.cells;have hl2:([]++[110,32]:List UInt8).length+(D:List UInt8).length<=140737488355328:=by simp;omega
 go_wp2_with (first|(go_at_call 58;refine(HTX.out _).mono ?_;rintro e y2 ⟨rfl,hb⟩;have uT:=ζ (aD.out.later hb);clear hb v0 v1 v2 vf;obtain⟨v0,v1,v2,vf⟩:=uT.out.cells)|(at_builtin;refine dY rfl _ _ rfl _ (w.heap.size+1) _ _ D rfl rfl uT.out.pZ hl2 (by have:=uT.out.size;omega) ?_;refine aaI ?_));refine ζ ?_;intro x2 w2 qa qb;have hh:=uT.out.grown qa qb;have aA:Hid (fq w false ao eo 0 ca m ce x2 ([]++[110,32]++D) w2):=ζ (by first|exact hh|(simp only[abb,abl,abp] at hh ⊢;exact hh));clear qa qb hh hl2;clear v0 v1 v2 vf;obtain⟨v0,v1,v2,vf⟩:=aA.out.cells;have hl3:([]++[110,32]++D:List UInt8).length+([10]:List UInt8).length<=140737488355328:=by simp;omega
 go_wp2_with (first|(at_builtin;refine cR rfl _ _ rfl _ (w.heap.size+1) _ _ [10] aA.out.pZ aA.out.size hl3 rfl _ rfl rfl ?_;refine aaI ?_));refine ζ ?_;intro x3 w3 qa qb;have hh:=(aA.out.later ((aaG _ _).alloc (aaF _) _)).grown qa qb;have aK:Hid (fq w false ao eo 0 ca m ce x3 ([]++[110,32]++D++[10]) w3):=ζ (by first|exact hh|(simp only[abb,abl,abp] at hh ⊢;exact hh));clear qa qb hh hl3;clear v0 v1 v2 vf;obtain⟨v0,v1,v2,vf⟩:=aK.out.cells;go_wp2;go_loopw [4,7] (fun bv iv wr=>∃(k:Nat) (v:Value) (L:List UInt8),k<=m/\iv= .int .i64 (k:Int)/\bv=v/\fq w false ao eo 0 ca m ce v L wr/\L++(es.drop k).flatMap Ce.gD=T) (fun _ iv _=>m-(intOf iv).toNat)
 case atStart=>exact⟨0,_,_,aaR _,rfl,rfl,aK.out,PT.out⟩
 case round=>
  obtain⟨k,v,L,hk,rfl,rfl,hps,heq⟩:=hrel;clear v0 v1 v2 vf;have lU:=ζ hps;have HQ:=ζ heq;clear hps heq;obtain⟨v0,v1,v2,vf⟩:=lU.out.cells;by_cases hlt:k<m
  .have aP:(k:Int)<(m:Int):=by omega
   have k0:(0:Int)<=(k:Int):=by omega
   obtain⟨⟨p,q⟩,hp⟩:∃p,es[k]? =some p:=⟨_,aaE (by have:=HM.out;omega)⟩;obtain⟨hop,hoq,-⟩:=HG.out.1.1 _ (aaJ hp);dsimp only at hop hoq;have HK:=ζ hp;rw[Ce.Ei hp,acH] at HQ;obtain⟨R,hR⟩:∃R,(es.drop (k+1)).flatMap Ce.gD=R:=⟨_,rfl⟩;rw[hR] at HQ;obtain⟨D1,O1⟩:∃D,Ce.dg p=D:=⟨_,rfl⟩;obtain⟨D2,hD2⟩:∃D,Ce.dg q=D:=⟨_,rfl⟩;have wN:Hid (∀W,Calls prog 58 #[.int .i64 p] W fun e w'=>e= .returned (.string ⟨D1.toArray⟩)/\Below W.heap.size W w'):=fun W=>by rw[<-O1];exact rY hop W
   have YW:Hid (∀W,Calls prog 58 #[.int .i64 q] W fun e w'=>e= .returned (.string ⟨D2.toArray⟩)/\Below W.heap.size W w'):=fun W=>by rw[<-hD2];exact rY hoq W
   have xZ:L++D1++[32]++D2++[10]++R=T:=by
    rw[<-HQ.out,<-O1,<-hD2];simp[Ce.gD]
   have hq3:=congrArg List.length xZ;simp only[aaZ,abx,ab3] at hq3;have PE:=ζ xZ;have yR:=ζ hq3;have HR:=ζ hR;clear hp hop hoq O1 hD2 hR xZ hq3;obtain⟨b,o,rfl,c0,c1⟩:=HEs.out.later lU.out.low k (p,q) HK.out;dsimp only at c0 c1;have hl4:(L:List UInt8).length+(D1:List UInt8).length<=140737488355328:=by have:=yR.out;have:=Ab.out;(try simp only[aaZ,abx,ab3]);omega
   go_wp2_with (first|(go_at_call 58;refine(wN.out _).mono ?_;rintro e y4 ⟨rfl,hb⟩;have B4:=ζ (lU.out.later hb);clear hb v0 v1 v2 vf;obtain⟨v0,v1,v2,vf⟩:=B4.out.cells)|(at_builtin;refine dY rfl _ _ rfl _ (w.heap.size+1) _ _ D1 rfl rfl B4.out.pZ hl4 (by have:=B4.out.size;omega) ?_;refine aaI ?_));refine ζ ?_;intro x4 w4 qa qb;have hh:=B4.out.grown qa qb;have cZ:Hid (fq w false ao (some ⟨b,o,none⟩) 0 ca m ce x4 (L++D1) w4):=ζ (by first|exact hh|(simp only[abb,abl,abp] at hh ⊢;exact hh));clear qa qb hh hl4;clear v0 v1 v2 vf;obtain⟨v0,v1,v2,vf⟩:=cZ.out.cells;have LN:(L++D1:List UInt8).length+([32]:List UInt8).length<=140737488355328:=by have:=yR.out;have:=Ab.out;(try simp only[aaZ,abx,ab3]);omega
   go_wp2_with (first|(at_builtin;refine cR rfl _ _ rfl _ (w.heap.size+1) _ _ [32] cZ.out.pZ cZ.out.size LN rfl _ rfl rfl ?_;refine aaI ?_));refine ζ ?_;intro x5 w5 qa qb;have hh:=(cZ.out.later ((aaG _ _).alloc (aaF _) _)).grown qa qb;have fM:Hid (fq w false ao (some ⟨b,o,none⟩) 0 ca m ce x5 (L++D1++[32]) w5):=ζ (by first|exact hh|(simp only[abb] at hh ⊢;exact hh));clear qa qb hh LN;clear v0 v1 v2 vf;obtain⟨v0,v1,v2,vf⟩:=fM.out.cells;clear c0 c1;obtain⟨b',o',e',c0,c1⟩:=HEs.out.later fM.out.low k (p,q) HK.out;cases e';dsimp only at c0 c1;have FE:(L++D1++[32]:List UInt8).length+(D2:List UInt8).length<=140737488355328:=by have:=yR.out;have:=Ab.out;(try simp only[aaZ,abx,ab3]);omega
   go_wp2_with (first|(go_at_call 58;refine(YW.out _).mono ?_;rintro e y6 ⟨rfl,hb⟩;have JT:=ζ (fM.out.later hb);clear hb v0 v1 v2 vf;obtain⟨v0,v1,v2,vf⟩:=JT.out.cells)|(at_builtin;refine dY rfl _ _ rfl _ (w.heap.size+1) _ _ D2 rfl rfl JT.out.pZ FE (by have:=JT.out.size;omega) ?_;refine aaI ?_));refine ζ ?_;intro x6 w6 qa qb;have hh:=JT.out.grown qa qb;have mE:Hid (fq w false ao (some ⟨b,o,none⟩) 0 ca m ce x6 (L++D1++[32]++D2) w6):=ζ (by first|exact hh|(simp only[abb,abl,abp] at hh ⊢;exact hh));clear qa qb hh FE;clear v0 v1 v2 vf;obtain⟨v0,v1,v2,vf⟩:=mE.out.cells;have Vg:(L++D1++[32]++D2:List UInt8).length+([10]:List UInt8).length<=140737488355328:=by have:=yR.out;have:=Ab.out;(try simp only[aaZ,abx,ab3]);omega
   go_wp2_with (first|(at_builtin;refine cR rfl _ _ rfl _ (w.heap.size+1) _ _ [10] mE.out.pZ mE.out.size Vg rfl _ rfl rfl ?_;refine aaI ?_));refine ζ ?_;intro x7 w7 qa qb;have hh:=(mE.out.later ((aaG _ _).alloc (aaF _) _)).grown qa qb;have za:Hid (fq w false ao (some ⟨b,o,none⟩) 0 ca m ce x7 (L++D1++[32]++D2++[10]) w7):=ζ (by first|exact hh|(simp only[abb,abl,abp] at hh ⊢;exact hh));clear qa qb hh Vg;clear v0 v1 v2 vf;obtain⟨v0,v1,v2,vf⟩:=za.out.cells;go_wp2;go_roundw
   case rel=>exact⟨k+1,_,_,by omega,by go_num,rfl,za.out,by rw[HR.out];exact PE.out⟩
   case measure=>simp[intOf];omega
  .have aP:¬((k:Int)<(m:Int)):=by omega
   obtain rfl:k=m:=by omega
   have hz:es.drop k=[]:=ac1 (by have:=HM.out;omega);rw[hz] at HQ;have hLT:L=T:=by have:=HQ.out;simpa using this
   subst hLT;obtain⟨g,vc,rfl,kc⟩:=lU.out.conv (by
    rw[<-PT.out];simp)
   clear hz;obtain⟨N,hN⟩:∃N,L.length=N:=⟨_,rfl⟩;have HN:=ζ hN;have HKC:=ζ kc;have Wo:=Ab.out;rw[hN] at kc Wo ⊢;clear hN;by_cases hbig:33554432<N
   .have lN:(33554432:Int)<(N:Int):=by omega
    clear kc;go_wp2;go_ret2;exact⟨.inl ⟨by have:=HN.out;omega,rfl⟩,lU.out.low⟩
   .have lN:¬((33554432:Int)<(N:Int)):=by omega
    go_wp2;go_ret2;exact⟨.inr ⟨by have:=HN.out;omega,rfl⟩,lU.out.low⟩
end
end Go.Proofs.YtdbjpbjocmcpkaaGreatDoor
