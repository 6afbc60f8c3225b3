import Derived.Deep.CutBlock
import Derived.Test.YtdbjpbjocmcpkaaGreatDoorMg05
import Derived.Deep.Matrix
import Derived.Handy
set_option maxHeartbeats 4000000
set_option maxRecDepth 100000
namespace Go.Proofs.YtdbjpbjocmcpkaaGreatDoor
section
open Go.Proofs.Tryz
open Go.RowKit
structure mO (w:World) (es:List (Int×Int)) (k:Nat) (la lb:Int) (W:World):Prop where
 low:Below w.heap.size w W
 last:W.heap[w.heap.size]? =some (.cells #[.int .i64 la,.int .i64 lb] 66 (0,0))
 one:∀(i:Nat) (p:Int×Int),i<k->es[i]? =some p->Ce.dH p.1/\Ce.dH p.2/\p.1<p.2
 two:∀(i:Nat) (p q:Int×Int),i+1<k->es[i]? =some p->es[i+1]? =some q->p.1<q.1\/(p.1=q.1/\p.2<q.2)
 zero:k=0->la=0/\lb=0
 prev:∀(j:Nat) (p:Int×Int),k=j+1->es[j]? =some p->(la,lb)=p
section
variable {w W W':World} {es:List (Int×Int)} {k:Nat} {la lb u v:Int}
theorem mO.later (h:mO w es k la lb W) (hb:Below W.heap.size W W'):mO w es k la lb W':=
 ⟨h.low.trans (hb.mono h.low.size),(hb.block _ (lt_of_block h.last)).trans h.last,h.one,h.two,h.zero,h.prev⟩
theorem mO.more (h:mO w es k la lb W) (he:es[k]? =some (u,v)) (h1:Ce.dH u/\Ce.dH v/\u<v) (h2:la<u\/(la=u/\lb<v)):mO w es (k+1) u v ((W.setCell ⟨w.heap.size,0,none⟩ (.int .i64 u)).setCell ⟨w.heap.size,1,none⟩ (.int .i64 v)):=by
 refine⟨(h.low.setCell (p:=⟨w.heap.size,0,none⟩) (aad _) _).setCell (p:=⟨w.heap.size,1,none⟩) (aad _) _,?_,fun i p hi hp=> ?_,fun i p q hi hp hq=> ?_,fun h=>absurd h (by omega),fun j p hj hp=> ?_⟩
 .rw[heap_setCell_same _ _ 1 _ _ _ (heap_setCell_same W _ 0 _ _ _ h.last)]
  simp
 .by_cases hik:i=k
  .subst hik
   rw[he] at hp;cases hp;exact h1
  .exact h.one i p (by omega) hp
 .by_cases hik:i+1=k
  .have:=h.prev i p (by omega) hp
   subst this;rw[hik,he] at hq;cases hq;exact h2
  .exact h.two i p q (by omega) hp hq
 .obtain rfl:k=j:=by omega
  rw[he] at hp;cases hp;rfl
theorem mO.no (h:mO w es k la lb W) (he:es[k]? =some (u,v)) (hn:¬((Ce.dH u/\Ce.dH v/\u<v)/\(la<u\/(la=u/\lb<v)))):¬Ce.kj es:=fun ho=>by
 have h1:=ho.1.1 (u,v) (aai he);dsimp only at h1;refine hn ⟨h1,?_⟩;cases k with
 |zero=>
  obtain⟨rfl,rfl⟩:=h.zero rfl;have:=h1.1.1;have:=h1.2.2;omega
 |succ j=>
  have hj:j<es.length:=by have:=(aah.1 he).1;omega
  have hp:es[j]? =some es[j]:=aac hj;have e:=h.prev j _ rfl hp;have h2:=ho.1.2 j _ (u,v) hp he;rw[<-e] at h2;exact h2
theorem mO.yes (h:mO w es es.length la lb W) (hl:es.length<=4194304):Ce.kj es:=by
 refine⟨⟨fun p hp=> ?_,fun i p q hp hq=>h.two i p q (aah.1 hq).1 hp hq⟩,hl⟩;obtain⟨i,hi⟩:=aaS hp;exact h.one i p (aah.1 hi).1 hi
theorem mO.start (w:World) (es:List (Int×Int)):mO w es 0 0 0 (w.alloc (.cells #[.int .i64 0,.int .i64 0] 66)):=
 ⟨(aae _ _).alloc (aad _) _,heap_alloc_new w _,fun i p h=>by omega,fun i p q h=>by omega,fun _=>⟨rfl,rfl⟩,fun j p h=>by omega⟩
end
theorem tH {w:World} {ao:Option Addr} {c:Nat} {es:List (Int×Int)} (h:ah w ao es) (hs:es.length<=4611686018427387904):
 Calls prog 335 #[.slice ao es.length c] w fun e w'=>Ce.Says e (Ce.kj es)/\Below w.heap.size w w':=by
 obtain⟨n,hn⟩:∃n,es.length=n:=⟨_,rfl⟩;rw[hn] at hs ⊢;have HS:=ζ h;have HN:=ζ hn;clear h hn;by_cases hc:4194304<n
 .have sK:(4194304:Int)<(n:Int):=by omega
  go_enter func335,ntmps335;go_wp2;go_ret;exact⟨Ce.Says.no fun h=>by have:=h.2;have:=HN.out;omega,aae _ _⟩
 .have sK:¬((4194304:Int)<(n:Int)):=by omega
  go_enter func335,ntmps335;go_wp2;go_loopw [11] (fun iv wr=>∃(k:Nat) (la lb:Int),k<=n/\iv= .int .i64 (k:Int)/\mO w es k la lb wr) (fun iv _=>n-(intOf iv).toNat)
  case atStart=>exact⟨0,0,0,aax _,rfl,mO.start w es⟩
  case round=>
   obtain⟨k,la,lb,hk,rfl,hf⟩:=hrel;have HF:=ζ hf;clear hf;by_cases hlt:k<n
   .have aQ:(k:Int)<(n:Int):=by omega
    obtain⟨⟨u,v⟩,he⟩:∃p,es[k]? =some p:=⟨_,aac (by have:=HN.out;omega)⟩;obtain⟨b,o,rfl,g0,g1⟩:=(HS.out.later HF.out.low) k (u,v) he;dsimp only at g0 g1;have HE:=ζ he;have k0:(0:Int)<=(k:Int):=by omega
    have hf2:=HF.out.later ((aae _ _).alloc (aad _) (.cells #[.int .i64 u,.int .i64 v] 66));obtain⟨l0,l1,lf⟩:=gi hf2.last;have C3:=ζ hf2;have Mm:Hid (∀W,Calls prog 334 #[.int .i64 u] W fun e w'=>e= .returned (.bool (decide (0<=u/\u<=999999999)))/\w'=W):=fun W=>oA u W
    have Ml:Hid (∀W,Calls prog 334 #[.int .i64 v] W fun e w'=>e= .returned (.bool (decide (0<=v/\v<=999999999)))/\w'=W):=fun W=>oA v W
    have U9:Hid (∀W,Calls prog 227 #[.agg #[.int .i64 u,.int .i64 v],.agg #[.int .i64 la,.int .i64 lb]] W fun e w'=>e= .returned (.bool (decide (la<u\/(la=u/\lb<v))))/\Below W.heap.size W w'):=fun W=>S0 u v la lb W
    clear he hf2;by_cases hu:0<=u/\u<=999999999
    .rw[decide_eq_true hu] at Mm
     by_cases hv:0<=v/\v<=999999999
     .rw[decide_eq_true hv] at Ml
      by_cases huv:v<=u
      .have cG:=ζ (HF.out.no HE.out fun h=>by have:=h.1.2.2;omega)
       clear hu hv;go_wp2_with (first|(go_at_call 334;with_reducible refine(Mm.out _).mono ?_;rintro e w' ⟨rfl,hw'⟩;obtain rfl:=hw'.symm;clear hw')|(go_at_call 334;with_reducible refine(Ml.out _).mono ?_;rintro e w' ⟨rfl,hw'⟩;obtain rfl:=hw'.symm;clear hw'));go_ret;exact⟨Ce.Says.no cG.out,C3.out.low⟩
      .have hvu:¬u>=v:=huv
       by_cases hab:la<u\/(la=u/\lb<v)
       .rw[decide_eq_true hab] at U9
        have fX:Hid ((Ce.dH u/\Ce.dH v/\u<v)/\(la<u\/(la=u/\lb<v))):=⟨⟨hu,hv,by omega⟩,hab⟩;clear hu hv hab;go_wp2_with (first|(go_at_call 334;with_reducible refine(Mm.out _).mono ?_;rintro e w' ⟨rfl,hw'⟩;obtain rfl:=hw'.symm;clear hw')|(go_at_call 334;with_reducible refine(Ml.out _).mono ?_;rintro e w' ⟨rfl,hw'⟩;obtain rfl:=hw'.symm;clear hw')|(go_at_call 227;with_reducible refine(U9.out _).mono ?_;rintro e w6 ⟨rfl,pX⟩;have xK:=C3.out.later pX;have m0:=(gi xK.last).1;have m1:=(gi xK.last).2.1;have mf:=(gi xK.last).2.2;have hz:=heap_alloc_new wr (.cells #[.int .i64 u,.int .i64 v] 66);have Jc:=(pX.block _ (lt_of_block hz)).trans hz;have n0:=(gi Jc).1;have n1:=(gi Jc).2.1;have HF6:=ζ xK;clear pX xK hz Jc));go_roundw
        case rel=>exact⟨k+1,u,v,by omega,by go_num,HF6.out.more HE.out fX.out.1 fX.out.2⟩
        case measure=>simp[intOf];omega
       .rw[decide_eq_false hab] at U9
        have cG:=ζ (HF.out.no HE.out fun h=>hab h.2);clear hu hv hab;go_wp2_with (first|(go_at_call 334;with_reducible refine(Mm.out _).mono ?_;rintro e w' ⟨rfl,hw'⟩;obtain rfl:=hw'.symm;clear hw')|(go_at_call 334;with_reducible refine(Ml.out _).mono ?_;rintro e w' ⟨rfl,hw'⟩;obtain rfl:=hw'.symm;clear hw')|(go_at_call 227;with_reducible refine(U9.out _).mono ?_;rintro e w6 ⟨rfl,pX⟩));go_ret;exact⟨Ce.Says.no cG.out,(C3.out.later pX).low⟩
     .rw[decide_eq_false hv] at Ml
      have cG:=ζ (HF.out.no HE.out fun h=>hv h.1.2.1);clear hu hv;go_wp2_with (first|(go_at_call 334;with_reducible refine(Mm.out _).mono ?_;rintro e w' ⟨rfl,hw'⟩;obtain rfl:=hw'.symm;clear hw')|(go_at_call 334;with_reducible refine(Ml.out _).mono ?_;rintro e w' ⟨rfl,hw'⟩;obtain rfl:=hw'.symm;clear hw'));go_ret;exact⟨Ce.Says.no cG.out,C3.out.low⟩
    .rw[decide_eq_false hu] at Mm
     have cG:=ζ (HF.out.no HE.out fun h=>hu h.1.1);clear hu;go_wp2_with (first|(go_at_call 334;with_reducible refine(Mm.out _).mono ?_;rintro e w' ⟨rfl,hw'⟩;obtain rfl:=hw'.symm;clear hw')|(go_at_call 334;with_reducible refine(Ml.out _).mono ?_;rintro e w' ⟨rfl,hw'⟩;obtain rfl:=hw'.symm;clear hw'));go_ret;exact⟨Ce.Says.no cG.out,C3.out.low⟩
   .have aQ:¬((k:Int)<(n:Int)):=by omega
    obtain rfl:k=n:=by omega
    go_wp2;go_ret;have hf:=HF.out;rw[<-HN.out] at hf;exact⟨Ce.Says.yes (hf.yes (by have:=HN.out;omega)),HF.out.low⟩
end
section
open Go.RowKit
def Kw (w:World) (B b:Nat) (T P:List UInt8):Prop:=
 ∃L t,cR w B b L t/\L.length<=300000000/\((t=false/\L=P)\/(t=true/\33554432<T.length))
theorem Kw.line {w:World} {B b:Nat} {T P:List UInt8} (h:Kw w B b T P) (hB:B<=w.heap.size) {ao:Option Addr} {c:Nat} {l:List Int} (ha:aU w ao l) (hok:∀x∈l,Ce.dH x) (hl:l.length<=4611686018427387) (ht:kO w) (hT:∃R,T=P++Ce.bU l++R):
 Calls Tryz.prog 78 #[.pointer (some ⟨b,0,none⟩),.slice ao l.length c] w fun e w'=>e= .returned (.tuple #[])/\Kw w' B b T (P++Ce.bU l)/\Below B w w':=by
 obtain⟨L,t,hw,hL,hx⟩:=h;rcases hx with ⟨rfl,rfl⟩|⟨rfl,gD⟩
 .by_cases hs:L.length+2*l.length<=33554432
  .refine(sY hw hB ha hok ht hs).mono ?_
   rintro e w' ⟨he,h1,h2⟩;have:=Ce.nP l hok;exact⟨he,⟨_,_,h1,by rw[aar];omega,.inl ⟨rfl,rfl⟩⟩,h2⟩
  .refine(sZ (ao:=ao) (c:=c) hw hl (.inr (by omega)) (by omega)).mono ?_
   rintro e w' ⟨he,h1,h2⟩;refine⟨he,⟨_,_,h1,hL,.inr ⟨rfl,?_⟩⟩,h2⟩;obtain⟨R,rfl⟩:=hT;have:=Ce.Q5 l;rw[aar,aar];omega
 .refine(sZ (ao:=ao) (c:=c) hw hl (.inl rfl) (by omega)).mono ?_
  rintro e w' ⟨he,h1,h2⟩;exact⟨he,⟨_,_,h1,hL,.inr ⟨rfl,gD⟩⟩,h2⟩
theorem Kw.end {w:World} {B b:Nat} {T:List UInt8} (h:Kw w B b T T) (hT:T≠[]):
 ∃K:Nat,∃t:Bool,w.cell? ⟨b,2,none⟩=some (.bool t)/\(Calls Tryz.prog 79 #[.pointer (some ⟨b,0,none⟩)] w fun e w'=>e= .returned (.int .i64 (K:Int))/\w'=w)/\
  (t=true/\33554432<T.length\/t=false/\K=T.length/\Calls Tryz.prog 80 #[.pointer (some ⟨b,0,none⟩)] w fun e w'=>e= .returned (.string ⟨T.toArray⟩)/\Below B w w'):=by
 obtain⟨L,t,hw,hL,hx⟩:=h;obtain⟨p,h1⟩:=hw.some;obtain⟨vo,vc,-,-,c2,-,-⟩:=h1.cells;refine⟨L.length,t,c2,qh hw,?_⟩;rcases hx with ⟨rfl,rfl⟩|⟨rfl,gD⟩
 .exact .inr ⟨rfl,rfl,Am hw hT⟩
 .exact .inl ⟨rfl,gD⟩
end
section
open Go.RowKit
theorem eZ {w:World} (h:kO w):∀W,Below w.heap.size w W->kO W:=fun W hW=>aeb h W hW
theorem uA {α:Type} (f:α->List UInt8) (ls:List α) {k:Nat} {l:α} (h:ls[k]? =some l):(ls.take (k+1)).flatMap f=(ls.take k).flatMap f++f l:=by
 rw[ab5,h,List.flatMap_append];simp
theorem yT {α:Type} (f:α->List UInt8) (ls:List α) {k:Nat} {l:α} (h:ls[k]? =some l):∃R,ls.flatMap f=(ls.take k).flatMap f++f l++R:=by
 refine⟨(ls.drop (k+1)).flatMap f,?_⟩;rw[<-uA f ls h,<-List.flatMap_append,adr]
theorem Ao {w:World} {ls:List (List Int)} {ao:Option Addr} {ca:Nat} (ha:Ce.fC w ao ls) (hg:Ce.yG ls) (hl:∀l∈ls,l.length<=4611686018427387) (ht:kO w) (T:List UInt8) (hT:Ce.eA ⟨true,ls,[]⟩=T):
 Calls Tryz.prog 41 #[.iface 139 (.slice ao ls.length ca)] w fun e w'=>Qd T e/\Below w.heap.size w w':=by
 have agy:∀(v:Value) (w:World),(Instr.typeAssert (.iface 139 v) 92 139 true).run Tryz.prog w= .ok (.tuple #[v,.bool true]) w:=fun _ _=>by kernel_rfl
 obtain⟨n,hn⟩:∃n,ls.length=n:=⟨_,rfl⟩;have hns:n<=1048576:=by have:=hg.2;omega
 have hok:Ce.dH (n:Int):=⟨by omega,by omega⟩;obtain⟨H,hH⟩:∃H,[112,32]++Ce.bU [(n:Int)]=H:=⟨_,rfl⟩;have Mj:T=H++ls.flatMap Ce.bU:=by
  rw[<-hT,<-hH];unfold Ce.eA Ce.Cw Ce.uM;simp[hn,Ce.bU,Ce.jn]
 have Mk:T≠[]:=by rw[Mj,<-hH];simp
 have PC:H.length<=300000000:=by
  rw[<-hH];have:=Ce.nP [(n:Int)] (fun x hx=>by rw[abg.1 hx];exact hok);simp at this ⊢;omega
 have hb0:Below w.heap.size w (w.alloc (.cells #[.pointer none,.slice none 0 0,.bool false] 146)):=(aae _ _).alloc (aad _) _;have CZ:=ζ (vn (S:=[112,32]) (nj.new (B:=w.heap.size) w (aad _)) (by simp) (by simp) hok (fun W hW=>eZ ht W (hb0.trans hW)));rw[hH] at CZ;have pG:=ζ (eZ ht);have HA:=ζ ha;have HG:=ζ hg.1;have HL:=ζ hl;have HN:=ζ hn;have Tf:=ζ Mj;have uX:=ζ PC;have aH:=ζ hb0;rw[hn];clear ha hg hl ht hn Mj PC hb0 hH hT;go_enter Tryz.func41,Tryz.ntmps41;go_wp2_with (go_at_call 77;refine CZ.out.mono ?_;rintro e w1 ⟨rfl,hw1,hb1⟩;have CS:=ζ hw1;have aI:=ζ (aH.out.trans hb1);clear hw1 hb1);go_loopw [20] (fun iv wr=>∃k:Nat,k<=n/\iv= .int .i64 (k:Int)/\Kw wr w.heap.size w.heap.size T (H++(ls.take k).flatMap Ce.bU)/\Below w.heap.size w wr) (fun iv _=>n-(intOf iv).toNat)
 case atStart=>exact⟨0,aax _,rfl,⟨H,false,CS.out,uX.out,.inl ⟨rfl,by simp⟩⟩,aI.out⟩
 case round=>
  obtain⟨k,hk,rfl,hw,hb⟩:=hrel;have HW:=ζ hw;have HB:=ζ hb;have hsz:=hb.size;by_cases hlt:k<n
  .have aQ:(k:Int)<(n:Int):=by omega
   obtain⟨l,hlk⟩:∃l,ls[k]? =some l:=⟨_,aac (by have:=HN.out;omega)⟩;obtain⟨b,o,xa,xc,rfl,c0,oL⟩:=(HA.out.later hb) k l hlk;have hlm:=HL.out l (aai hlk);have hxs:∃R,T=(H++(ls.take k).flatMap Ce.bU)++Ce.bU l++R:=by
    obtain⟨R,hR⟩:=yT Ce.bU ls hlk;exact⟨R,by rw[Tf.out,hR];simp⟩
   have HC:=ζ (hw.line hsz (c:=xc) oL (fun x hx=>((HG.out l (aai hlk)) x hx).1) hlm (pG.out _ hb) hxs);have ew:=ζ hlk;have k0:(0:Int)<=(k:Int):=by omega
   clear hw hb oL hlk hxs;go_wp2_with (go_at_call 78;refine HC.out.mono ?_;rintro e w2 ⟨rfl,hw2,hb2⟩;have DY:=ζ hw2;have aB:=ζ (HB.out.trans hb2);clear hw2 hb2);go_roundw
   case rel=>exact⟨k+1,by omega,by go_num,by rw[uA Ce.bU ls ew.out,<-aaR];exact DY.out,aB.out⟩
   case measure=>simp[intOf];omega
  .have aQ:¬((k:Int)<(n:Int)):=by omega
   obtain rfl:k=n:=by omega
   have hte:ls.take k=ls:=by rw[<-HN.out];exact abW
   rw[hte,<-Tf.out] at hw;obtain⟨K,t,c2,hlen,hx⟩:=hw.end Mk;have HLEN:=ζ hlen;clear hw hb hlen;rcases hx with ⟨rfl,gD⟩|⟨rfl,rfl,Jg⟩
   .go_wp2
    go_ret2;exact⟨.inl ⟨gD,rfl⟩,HB.out⟩
   .have Tj:=ζ Jg
    clear Jg;by_cases gD:33554432<T.length
    .have sI:(33554432:Int)<(T.length:Int):=by omega
     go_wp2_with (go_at_call 79;refine HLEN.out.mono ?_;rintro e w' ⟨rfl,hw'⟩;obtain rfl:=hw'.symm;clear hw');go_ret2;exact⟨.inl ⟨gD,rfl⟩,HB.out⟩
    .have sI:¬((33554432:Int)<(T.length:Int)):=by omega
     go_wp2_with (first|(go_at_call 79;refine HLEN.out.mono ?_;rintro e w' ⟨rfl,hw'⟩;obtain rfl:=hw'.symm;clear hw')|(go_at_call 80;refine Tj.out.mono ?_;rintro e w4 ⟨rfl,hb4⟩;have dy:=ζ (HB.out.trans hb4);clear hb4));go_ret2;exact⟨.inr ⟨by omega,rfl⟩,dy.out⟩
end
section
open Go.RowKit
namespace Ce
structure Small (c:Cert):Prop where
 ar:c.ar.length<=1048576
 es:c.es.length<=4194304
 row:∀l∈c.ar,l.length<=33554432
 txt:(eA c).length<=33554432
end Ce
end
section
open Go.Proofs.Tryz
open Go.ChangeShapes Go.WideShapes Go.ChangeAt Go.RowKit Go.Deep
theorem MG:prog.cellsOf 27=3:=by kernel_rfl
theorem Kj:prog.cellsOf 25=1:=by kernel_rfl
theorem MF:prog.cellsOf 55=1:=by kernel_rfl
theorem MH:prog.cellsOf 4=1:=by kernel_rfl
theorem E4 {H:Type}:∀a b:List (DataW H),Rows.uptoBulkAll (a++b)=Rows.uptoBulkAll a+Rows.uptoBulkAll b
 |[],b=>by simp[Rows.uptoBulkAll]
 |x::a,b=>by
  have:=E4 a b;simp only[abm,Rows.uptoBulkAll,this];omega
theorem P5 {H:Type} (k:IntKind) (A:Option Addr) (L:Nat) (zs:List Int) (hA:A=none->zs=[]):zs.length+1<=Rows.uptoBulk (intRow k A L zs:DataW H):=by
 cases A with
 |none=>
  rw[hA rfl];simp[intRow,Rows.uptoBulk]
 |some a=>
  have h1:=o7 (lits k (zs.take L):List (DataW H));have h2:=o7 (lits k (zs.drop L):List (DataW H));simp only[lits,aaE,abu,ada] at h1 h2;simp only[intRow,Rows.uptoBulk];unfold lits;omega
structure dG (w:World) (pl:Bool) (ao:Option Addr) (ls:List (List Int)) (eo:Option Addr) (ce:Nat) (es:List (Int×Int)):Prop where
 ar:Ce.mL w ao ls
 ed:ah w eo es
 nil:eo=none->ce=0
 sum:(ls.map fun l=>l.length+1).sum+es.length<=1048576
theorem dG.later {w w':World} {pl:Bool} {ao:Option Addr} {ls:List (List Int)} {eo:Option Addr} {ce:Nat} {es:List (Int×Int)} (h:dG w pl ao ls eo ce es) (hb:Below w.heap.size w w'):dG w' pl ao ls eo ce es:=⟨h.ar.later hb,h.ed.later hb,h.nil,h.sum⟩
theorem Hv (ls:List (List Int)):ls.length<=(ls.map fun l=>l.length+1).sum:=by
 induction ls with
 |nil=>simp
 |cons l r ih=>simp;omega
theorem Hu {ls:List (List Int)} {l:List Int} (h:l∈ls):l.length+1<=(ls.map fun l=>l.length+1).sum:=by
 induction ls with
 |nil=>cases h
 |cons x r ih=>
  simp;rcases aaU.1 h with rfl|h
  .omega
  .have:=ih h
   omega
section
variable {H:Type} {enc:TypeId×Value->H} {W:World} {base:Nat}
theorem De {e:TypeId} {f0 f1 f2:Field} (he:prog.underlying e=some (.struct #[f0,f1,f2])) (o0:f0.offset=0) (o1:f1.offset=1) (o2:f2.offset=2) (t0:f0.type=4) (t1:f1.type=25) (t2:f2.type=22)
 {fuel:Nat} {u v z:Value} {x:DataW H×List MemPlace} (h:DataW.trod enc prog W 0 (fun _=>true) true fuel e [u,v,z]=some x):
 ∃(m:Nat) (y0 y1 y2:DataW H×List MemPlace),DataW.trod enc prog W 0 (fun _=>true) true m 4 [u]=some y0/\DataW.trod enc prog W 0 (fun _=>true) true m 25 [v]=some y1/\DataW.trod enc prog W 0 (fun _=>true) true m 22 [z]=some y2/\x.1= .agg [y0.1,y1.1,y2.1]:=by
 obtain⟨xs,m,_,zK,hl,hx,hf⟩:=aer he h
 match xs,hx with
 |[y0,y1,y2],_=>
  have g0:=hf 0 f0 rfl;have g1:=hf 1 f1 rfl;have g2:=hf 2 f2 rfl;simp only[o0,o1,o2,t0,t1,t2,MH,Kj,ze] at g0 g1 g2;exact⟨m,y0,y1,y2,by simpa using g0,by simpa using g1,by simpa using g2,by rw[zK];rfl⟩
end
end
section
open Go.ChangeShapes Go.WideShapes Go.ChangeAt Go.RowKit Go.Deep
theorem bA.aaf {w:World} {xo:Option Addr} {ls:List (List Int)} (h:bA w xo ls):Ce.mL w xo ls:=fun v l hl=>by
 obtain⟨b,o,A,C,e,hc,hL,hn,-⟩:=h v l hl;exact⟨b,o,A,C,e,hc,hL,hn⟩
structure Fg (w:World) (pl:Bool) (ao:Option Addr) (ls:List (List Int)) (eo:Option Addr) (ce:Nat) (es:List (Int×Int)):Prop where
 cert:dG w pl ao ls eo ce es
 rws:bA w ao ls
section
variable {H:Type} {enc:TypeId×Value->H} {W:World} {base:Nat}
theorem xC {fuel:Nat} {v:Value} {x:DataW H×List MemPlace} (h:DataW.trod enc Tryz.prog W 0 (fun _=>true) true fuel 25 [v]=some x) (hsm:Rows.uptoBulk x.1<=1048576):
 ∃ao ca ls,v= .slice ao ls.length ca/\bA W ao ls/\(ls.map fun l=>l.length+1).sum<=Rows.uptoBulk x.1:=by
 rcases open_int_rows Tryz.underlying25 Tryz.underlying55 Tryz.underlying3 MF P0 h with ⟨hcs,hx⟩|⟨y,l,c,A,L,C,Z,hcs,_,hl,hm,hx,hrow⟩
 .simp at hcs
  subst hcs;exact⟨none,0,[],rfl,fun k l hl=>by simp at hl,by simp⟩
 .simp at hcs
  subst hcs;subst hx;have hz:∀r,r<c->((Z r).take (L r)).length=L r:=fun r hr=>by
   obtain⟨-,h1,-,h3,-⟩:=hrow r hr;rw[abu];omega
  have hsum:∀n,n<=l->(((List.range n).map fun r=>(Z r).take (L r)).map fun l=>l.length+1).sum<=Rows.uptoBulkAll ((List.range n).map fun r=>(intRow .i64 (A r) (L r) (Z r):DataW H)):=fun n=>by
   induction n with
   |zero=>intro _;simp
   |succ n ih=>
    intro hn;rw[acK,abj,abj,abj,List.sum_append,E4];have h1:=ih (by omega);obtain⟨-,h2,-,h3,-,h5,-⟩:=hrow n (by omega);have h4:=P5 (H:=H) .i64 (A n) (L n) (Z n) (fun e=>abM.1 (by rw[h3];exact h5 e));have h6:=hz n (by omega);simp only[ab7,adH,ac3,List.sum_nil,Rows.uptoBulkAll,abN];rw[h6];omega
  have hs:=hsum l (aad _);have hb:Rows.uptoBulkAll ((List.range l).map fun r=>(intRow .i64 (A r) (L r) (Z r):DataW H))<=Rows.uptoBulk (DataW.slice ((List.range l).map fun r=>(intRow .i64 (A r) (L r) (Z r):DataW H)) ((List.range (c-l)).map fun j=>intRow .i64 (A (l+j)) (L (l+j)) (Z (l+j)))):=by
   simp only[Rows.uptoBulk];omega
  refine⟨some y,c,(List.range l).map fun r=>(Z r).take (L r),by simp,fun k q hq=> ?_,aaD hs hb⟩;have hk:k<l:=by
   have:=(aah.1 hq).1;simpa using this
  have UG:=Hu (aai hq);rw[aaP,acU hk] at hq;obtain rfl:=aaG hq;obtain⟨hc,h1,h2,h3,h4,h5,h6⟩:=hrow k (by omega);have hlen:=hz k (by omega);obtain⟨xb,xo,sp⟩:=y;have hsp:sp=none:=by simpa[Addr.add] using aeD (hrow 0 (by omega)).1
  subst hsp;have e:((⟨xb,xo,none⟩:Addr).add k)=⟨xb,xo+k,none⟩:=by
   by_cases h0:k=0<;>simp[Addr.add,h0]
  rw[e] at hc;refine⟨xb,xo,A k,C k,rfl,by rw[hlen];exact hc,⟨rfl,fun i z hz=> ?_,fun hA=> ?_⟩,?_⟩
  .rw[aci] at hz
   split at hz
   .rename_i hiL
    obtain⟨y,hA⟩:∃y,A k=some y:=by
     cases hA:A k with
     |none=>
      have:=h5 hA;omega
     |some y=>exact⟨y,rfl⟩
    obtain⟨hyb,hcell⟩:=h6 y hA;have sK:=hcell i (by omega);obtain⟨yb,yo,ys⟩:=y;have hys:ys=none:=by simpa[Addr.add] using aeD (hcell 0 (by omega))
    subst hys;have ei:((⟨yb,yo,none⟩:Addr).add i)=⟨yb,yo+i,none⟩:=by
     by_cases h0:i=0<;>simp[Addr.add,h0]
    rw[ei] at sK;refine⟨yb,yo,hA,?_⟩;rw[sK];have:(Z k).getD i 0=z:=by simp[hz]
    rw[this]
   .cases hz
  .have:=h5 hA
   rw[hlen];exact⟨by omega,this⟩
  .refine⟨?_,?_,?_⟩
   .have:=aaD (aaD UG (aaD hs hb)) hsm
    omega
   .rw[hlen]
    exact h1
   .unfold maxLen at h2
    omega
theorem zT {v:Value} {d:DataW H} {p:List MemPlace} {ds:List (DataW H)} {j:Nat} (hval:Value.okWide Tryz.prog W .any base 27 v)
 (h:DataW.Trod enc Tryz.prog W 0 (fun _=>true) true 27 v d p) (hk:Rows.uptoSmall H ds=true) (hds:ds[j]? =some d):
 ∃(pl:Bool) (ao:Option Addr) (ca:Nat) (ls:List (List Int)) (eo:Option Addr) (ce:Nat) (es:List (Int×Int)),v= .agg #[.bool pl,.slice ao ls.length ca,.slice eo es.length ce]/\Fg W pl ao ls eo ce es:=by
 have hb:=of_decide_eq_true hk;have hp:=MK (aai hds);obtain⟨cs,rfl,hcs⟩:=okWide_struct Tryz.underlying27 hval;rw[MG] at hcs;obtain⟨fuel,hf⟩:=h;obtain⟨cl⟩:=cs
 match cl,hcs with
 |[u,v,z],_=>
  obtain⟨m,y0,y1,y2,g0,g1,g2,zK⟩:=De Tryz.underlying27 rfl rfl rfl rfl rfl rfl hf;have zK:d= .agg [y0.1,y1.1,y2.1]:=zK;subst zK;simp only[Rows.uptoBulk,Rows.uptoBulkAll] at hp;obtain⟨b,e0,-⟩:=DataW.trod_bool Tryz.underlying4 g0;simp at e0;subst e0;obtain⟨ao,ca,ls,rfl,hls,hsum⟩:=xC g1 (by omega);have Pm:∃a len cap,z= .slice a len cap:=by
   rcases aeH Tryz.underlying22 g2 with ⟨hc,_⟩|⟨ad,l,c,_,_,_,_,hc,_⟩
   .simp at hc;exact⟨_,_,_,hc⟩
   .simp at hc;exact⟨_,_,_,hc⟩
  obtain⟨a,len,cap,rfl⟩:=Pm;obtain⟨qs,hq,hd⟩:=EB Tryz.underlying22 uK (fun n cs y hy=>Eh hy) g2;have pV:=hq.hlen;subst pV;refine⟨b,ao,ca,ls,a,cap,qs,rfl,⟨hls.aaf,hq.hat,fun e=>(hq.hnil e).2,?_⟩,hls⟩;have hqs:qs.length<=Rows.uptoBulk y2.1:=by
   rcases hd with ⟨_,rfl⟩|⟨es,rest,hd,hle⟩
   .simp
   .rw[hd]
    have:=o7 es;simp only[Rows.uptoBulk];omega
  omega
end
end
section
open Go.Proofs.Tryz
open Go.RowKit
theorem uD (p:Int×Int):Ce.gZ p=Ce.bU [p.1,p.2]:=by
 unfold Ce.gZ Ce.bU;simp[Ce.jn]
theorem Ap {w:World} {es:List (Int×Int)} {ao:Option Addr} {ca:Nat} (ha:ah w ao es) (hg:Ce.kj es) (ht:kO w) (T:List UInt8) (hT:Ce.eA ⟨false,[],es⟩=T):
 Calls prog 41 #[.iface 140 (.slice ao es.length ca)] w fun e w'=>Qd T e/\Below w.heap.size w w':=by
 have agx:∀(v:Value) (w:World),(Instr.typeAssert (.iface 140 v) 92 139 true).run prog w= .ok (.tuple #[.slice none 0 0,.bool false]) w:=fun _ _=>by kernel_rfl
 have agw:∀(v:Value) (w:World),(Instr.typeAssert (.iface 140 v) 92 140 true).run prog w= .ok (.tuple #[v,.bool true]) w:=fun _ _=>by kernel_rfl
 obtain⟨n,hn⟩:∃n,es.length=n:=⟨_,rfl⟩;have hns:n<=4194304:=by have:=hg.2;omega
 have hok:Ce.dH (n:Int):=⟨by omega,by omega⟩;obtain⟨H,hH⟩:∃H,[110,32]++Ce.bU [(n:Int)]=H:=⟨_,rfl⟩;have Mj:T=H++es.flatMap Ce.gZ:=by
  rw[<-hT,<-hH];unfold Ce.eA Ce.Cw Ce.uM;simp[hn,Ce.bU,Ce.jn]
 have Mk:T≠[]:=by rw[Mj,<-hH];simp
 have PC:H.length<=300000000:=by
  rw[<-hH];have:=Ce.nP [(n:Int)] (fun x hx=>by rw[abg.1 hx];exact hok);simp at this ⊢;omega
 have hb0:Below w.heap.size w (w.alloc (.cells #[.pointer none,.slice none 0 0,.bool false] 146)):=(aae _ _).alloc (aad _) _;have CZ:=ζ (vn (S:=[110,32]) (nj.new (B:=w.heap.size) w (aad _)) (by simp) (by simp) hok (fun W hW=>eZ ht W (hb0.trans hW)));rw[hH] at CZ;have pG:=ζ (eZ ht);have HA:=ζ ha;have HG:=ζ hg.1;have HN:=ζ hn;have Tf:=ζ Mj;have uX:=ζ PC;have aH:=ζ hb0;rw[hn];clear ha hg ht hn Mj PC hb0 hH hT;go_enter func41,ntmps41;go_wp2_with (go_at_call 77;refine CZ.out.mono ?_;rintro e w1 ⟨rfl,hw1,hb1⟩;have CS:=ζ hw1;have aI:=ζ (aH.out.trans hb1);clear hw1 hb1);go_loopw [35] (fun iv wr=>∃k:Nat,k<=n/\iv= .int .i64 (k:Int)/\Kw wr w.heap.size w.heap.size T (H++(es.take k).flatMap Ce.gZ)/\Below w.heap.size w wr) (fun iv _=>n-(intOf iv).toNat)
 case atStart=>exact⟨0,aax _,rfl,⟨H,false,CS.out,uX.out,.inl ⟨rfl,by simp⟩⟩,aI.out⟩
 case round=>
  obtain⟨k,hk,rfl,hw,hb⟩:=hrel;have HW:=ζ hw;have HB:=ζ hb;have hsz:=hb.size;by_cases hlt:k<n
  .have aQ:(k:Int)<(n:Int):=by omega
   obtain⟨⟨u,v⟩,hlk⟩:∃p,es[k]? =some p:=⟨_,aac (by have:=HN.out;omega)⟩;obtain⟨b,o,rfl,g0,g1⟩:=(HA.out.later hb) k (u,v) hlk;dsimp only at g0 g1;have hmm:=aai hlk;have hxs:∃R,T=(H++(es.take k).flatMap Ce.gZ)++Ce.bU [u,v]++R:=by
    obtain⟨R,hR⟩:=yT Ce.gZ es hlk;exact⟨R,by rw[Tf.out,hR,uD];simp⟩
   have hz1:Below wr.heap.size wr (wr.alloc (.cells #[.int .i64 u,.int .i64 v] 66)):=(aae _ _).alloc (aad _) _;have hz2:Below wr.heap.size wr ((wr.alloc (.cells #[.int .i64 u,.int .i64 v] 66)).alloc (.cells #[.int .i64 u,.int .i64 v] 3)):=hz1.alloc (by simp) _;have hI:aU ((wr.alloc (.cells #[.int .i64 u,.int .i64 v] 66)).alloc (.cells #[.int .i64 u,.int .i64 v] 3)) (some ⟨(wr.alloc (.cells #[.int .i64 u,.int .i64 v] 66)).heap.size,0,none⟩) [u,v]:=ak.at (l:=[u,v]) (heap_alloc_new _ _);rw[abk] at hI;have hwz:Kw ((wr.alloc (.cells #[.int .i64 u,.int .i64 v] 66)).alloc (.cells #[.int .i64 u,.int .i64 v] 3)) w.heap.size w.heap.size T (H++(es.take k).flatMap Ce.gZ):=by
    obtain⟨L,t,h1,h2⟩:=hw;exact⟨L,t,h1.later hz2,h2⟩
   have HZ:=ζ (hb.trans (hz2.mono hsz));have HC:=ζ (hwz.line (l:=[u,v]) (c:=2) (by simp;omega) hI (fun x hx=>by
    have:=HG.out.1 (u,v) hmm;simp at hx;rcases hx with rfl|rfl
    .exact this.1
    .exact this.2.1) (by simp) (pG.out _ HZ.out) hxs)
   have ew:=ζ hlk;have k0:(0:Int)<=(k:Int):=by omega
   clear hw hb hlk hxs hz1 hz2 hI hwz hmm;go_wp2_with (go_at_call 78;refine HC.out.mono ?_;rintro e w2 ⟨rfl,hw2,hb2⟩;have DY:=ζ hw2;have aB:=ζ (HZ.out.trans hb2);clear hw2 hb2);go_roundw
   case rel=>exact⟨k+1,by omega,by go_num,by rw[uA Ce.gZ es ew.out,<-aaR,uD];exact DY.out,aB.out⟩
   case measure=>simp[intOf];omega
  .have aQ:¬((k:Int)<(n:Int)):=by omega
   obtain rfl:k=n:=by omega
   have hte:es.take k=es:=by rw[<-HN.out];exact abW
   rw[hte,<-Tf.out] at hw;obtain⟨K,t,c2,hlen,hx⟩:=hw.end Mk;have HLEN:=ζ hlen;clear hw hb hlen;rcases hx with ⟨rfl,gD⟩|⟨rfl,rfl,Jg⟩
   .go_wp2
    go_ret2;exact⟨.inl ⟨gD,rfl⟩,HB.out⟩
   .have Tj:=ζ Jg
    clear Jg;by_cases gD:33554432<T.length
    .have sI:(33554432:Int)<(T.length:Int):=by omega
     go_wp2_with (go_at_call 79;refine HLEN.out.mono ?_;rintro e w' ⟨rfl,hw'⟩;obtain rfl:=hw'.symm;clear hw');go_ret2;exact⟨.inl ⟨gD,rfl⟩,HB.out⟩
    .have sI:¬((33554432:Int)<(T.length:Int)):=by omega
     go_wp2_with (first|(go_at_call 79;refine HLEN.out.mono ?_;rintro e w' ⟨rfl,hw'⟩;obtain rfl:=hw'.symm;clear hw')|(go_at_call 80;refine Tj.out.mono ?_;rintro e w4 ⟨rfl,hb4⟩;have dy:=ζ (HB.out.trans hb4);clear hb4));go_ret2;exact⟨.inr ⟨by omega,rfl⟩,dy.out⟩
end
section
open Go.Proofs.Tryz
open Go.RowKit
theorem jo (w:World) (ao eo:Option Addr) (na ca ne ce:Nat):
 Calls prog 40 #[.agg #[.bool true,.slice ao na ca,.slice eo ne ce]] w fun e w'=>e= .returned (.tuple #[.iface 139 (.slice ao na ca),.bool ((ne:Int)==0)])/\Below w.heap.size w w':=by
 go_enter func40,ntmps40;go_wp2_with fail;go_quiet (fail);go_wp2;go_ret2;exact⟨rfl,below_drewN ((aae _ _).alloc (aad _) _) _⟩
theorem jq (w:World) (ao eo:Option Addr) (na ca ne ce:Nat):
 Calls prog 40 #[.agg #[.bool false,.slice ao na ca,.slice eo ne ce]] w fun e w'=>e= .returned (.tuple #[.iface 140 (.slice eo ne ce),.bool ((na:Int)==0)])/\Below w.heap.size w w':=by
 go_enter func40,ntmps40;go_wp2_with fail;go_quiet (fail);go_wp2;go_ret2;exact⟨rfl,below_drewN ((aae _ _).alloc (aad _) _) _⟩
theorem AZ {w:World} {ls:List (List Int)} {ao eo:Option Addr} {ca ce:Nat} (ha:Ce.fC w ao ls) (hs:ls.length<=4611686018427387904) (hl:∀l∈ls,l.length<=4611686018427387) (ht:kO w):
 Calls prog 19 #[.agg #[.bool true,.slice ao ls.length ca,.slice eo 0 ce]] w fun e w'=>sr ⟨true,ls,[]⟩ e/\Below w.heap.size w w':=by
 have hz:Below w.heap.size w (w.alloc (.cells #[.bool true,.slice ao ls.length ca,.slice eo 0 ce] 27)):=(aae _ _).alloc (aad _) _;have hgd:Ce.good ⟨true,ls,[]⟩↔Ce.yG ls:=by
  unfold Ce.good;rw[if_pos rfl];exact⟨fun h=>⟨h.2.1,h.2.2⟩,fun h=>⟨rfl,h.1,h.2⟩⟩
 have HZ:=ζ hz;have HA:=ζ ha;have sM:=ζ hgd;clear hz ha hgd;by_cases hok:Ce.yG ls
 .have fX:=ζ hok
  clear hok;go_enter func19,ntmps19
  go_wp2_with (first
   |(go_at_call 40;refine(jo _ _ _ _ _ _ _).mono ?_;rintro e w1 ⟨rfl,hb1⟩;have HB:=ζ (HZ.out.trans (hb1.mono HZ.out.size));clear hb1)
   |(go_at_call 333;refine(tG (c:=ca) (HA.out.later HB.out) hs (fun l h=>aaD (hl l h) (by omega))).mono ?_;rintro e w2 ⟨⟨t,rfl,BD⟩,hb2⟩;obtain rfl:=BD.2 fX.out;have aB:=ζ (HB.out.trans (hb2.mono HB.out.size));clear hb2 BD)
   |(go_at_call 41;refine(Ao (ca:=ca) (HA.out.later aB.out) fX.out hl (eZ ht _ aB.out) _ rfl).mono ?_;rintro e w3 ⟨hp,hb3⟩;rcases hp with ⟨oJ,rfl⟩|⟨oJ,rfl⟩))
  .go_ret2
   exact⟨⟨fun hn=>absurd (sM.out.2 fX.out) hn,fun _=> .inl ⟨oJ,rfl⟩⟩,aB.out.trans (hb3.mono aB.out.size)⟩
  .go_ret2
   exact⟨⟨fun hn=>absurd (sM.out.2 fX.out) hn,fun _=> .inr ⟨oJ,rfl⟩⟩,aB.out.trans (hb3.mono aB.out.size)⟩
 .have fX:=ζ hok
  clear hok;go_enter func19,ntmps19
  go_wp2_with (first
   |(go_at_call 40;refine(jo _ _ _ _ _ _ _).mono ?_;rintro e w1 ⟨rfl,hb1⟩;have HB:=ζ (HZ.out.trans (hb1.mono HZ.out.size));clear hb1)
   |(go_at_call 333;refine(tG (c:=ca) (HA.out.later HB.out) hs (fun l h=>aaD (hl l h) (by omega))).mono ?_;rintro e w2 ⟨⟨t,rfl,BD⟩,hb2⟩;obtain rfl:t=false:=by { cases t with|false=>rfl|true=>exact absurd (BD.1 rfl) fX.out };have aB:=ζ (HB.out.trans (hb2.mono HB.out.size));clear hb2 BD))
  go_ret2;exact⟨⟨fun _=>rfl,fun h=>absurd (sM.out.1 h) fX.out⟩,aB.out⟩
theorem vF {w:World} {na ne:Nat} {ao eo:Option Addr} {ca ce:Nat} (hn:ne≠0):
 Calls prog 19 #[.agg #[.bool true,.slice ao na ca,.slice eo ne ce]] w fun e w'=>e= .returned (.tuple #[.string ⟨#[]⟩,.int .i64 170])/\Below w.heap.size w w':=by
 have hz:Below w.heap.size w (w.alloc (.cells #[.bool true,.slice ao na ca,.slice eo ne ce] 27)):=(aae _ _).alloc (aad _) _;have hni:((ne:Int)==0)=false:=by simp[hn]
 go_enter func19,ntmps19;go_wp2_with (go_at_call 40;refine(jo _ _ _ _ _ _ _).mono ?_;rw[hni];rintro e w1 ⟨rfl,hb1⟩);go_ret2;exact⟨rfl,hz.trans (hb1.mono hz.size)⟩
theorem A3 {w:World} {es:List (Int×Int)} {ao eo:Option Addr} {ca ce:Nat} (ha:ah w eo es) (hs:es.length<=4611686018427387904) (ht:kO w):
 Calls prog 19 #[.agg #[.bool false,.slice ao 0 ca,.slice eo es.length ce]] w fun e w'=>sr ⟨false,[],es⟩ e/\Below w.heap.size w w':=by
 have hz:Below w.heap.size w (w.alloc (.cells #[.bool false,.slice ao 0 ca,.slice eo es.length ce] 27)):=(aae _ _).alloc (aad _) _;have hgd:Ce.good ⟨false,[],es⟩↔Ce.kj es:=by
  unfold Ce.good;rw[if_neg (by simp)];exact⟨fun h=>⟨h.2.1,h.2.2⟩,fun h=>⟨rfl,h.1,h.2⟩⟩
 have HZ:=ζ hz;have HA:=ζ ha;have sM:=ζ hgd;clear hz ha hgd;by_cases hok:Ce.kj es
 .have fX:=ζ hok
  clear hok;go_enter func19,ntmps19
  go_wp2_with (first
   |(go_at_call 40;refine(jq _ _ _ _ _ _ _).mono ?_;rintro e w1 ⟨rfl,hb1⟩;have HB:=ζ (HZ.out.trans (hb1.mono HZ.out.size));clear hb1)
   |(go_at_call 335;refine(tH (c:=ce) (HA.out.later HB.out) hs).mono ?_;rintro e w2 ⟨⟨t,rfl,BD⟩,hb2⟩;obtain rfl:=BD.2 fX.out;have aB:=ζ (HB.out.trans (hb2.mono HB.out.size));clear hb2 BD)
   |(go_at_call 41;refine(Ap (ca:=ce) (HA.out.later aB.out) fX.out (eZ ht _ aB.out) _ rfl).mono ?_;rintro e w3 ⟨hp,hb3⟩;rcases hp with ⟨oJ,rfl⟩|⟨oJ,rfl⟩))
  .go_ret2
   exact⟨⟨fun hn=>absurd (sM.out.2 fX.out) hn,fun _=> .inl ⟨oJ,rfl⟩⟩,aB.out.trans (hb3.mono aB.out.size)⟩
  .go_ret2
   exact⟨⟨fun hn=>absurd (sM.out.2 fX.out) hn,fun _=> .inr ⟨oJ,rfl⟩⟩,aB.out.trans (hb3.mono aB.out.size)⟩
 .have fX:=ζ hok
  clear hok;go_enter func19,ntmps19
  go_wp2_with (first
   |(go_at_call 40;refine(jq _ _ _ _ _ _ _).mono ?_;rintro e w1 ⟨rfl,hb1⟩;have HB:=ζ (HZ.out.trans (hb1.mono HZ.out.size));clear hb1)
   |(go_at_call 335;refine(tH (c:=ce) (HA.out.later HB.out) hs).mono ?_;rintro e w2 ⟨⟨t,rfl,BD⟩,hb2⟩;obtain rfl:t=false:=by { cases t with|false=>rfl|true=>exact absurd (BD.1 rfl) fX.out };have aB:=ζ (HB.out.trans (hb2.mono HB.out.size));clear hb2 BD))
  go_ret2;exact⟨⟨fun _=>rfl,fun h=>absurd (sM.out.1 h) fX.out⟩,aB.out⟩
theorem vG {w:World} {na ne:Nat} {ao eo:Option Addr} {ca ce:Nat} (hn:na≠0):
 Calls prog 19 #[.agg #[.bool false,.slice ao na ca,.slice eo ne ce]] w fun e w'=>e= .returned (.tuple #[.string ⟨#[]⟩,.int .i64 170])/\Below w.heap.size w w':=by
 have hz:Below w.heap.size w (w.alloc (.cells #[.bool false,.slice ao na ca,.slice eo ne ce] 27)):=(aae _ _).alloc (aad _) _;have hni:((na:Int)==0)=false:=by simp[hn]
 go_enter func19,ntmps19;go_wp2_with (go_at_call 40;refine(jq _ _ _ _ _ _ _).mono ?_;rw[hni];rintro e w1 ⟨rfl,hb1⟩);go_ret2;exact⟨rfl,hz.trans (hb1.mono hz.size)⟩
structure Ce.vg (c:Ce.Cert):Prop where
 ar:c.ar.length<=4611686018427387904
 es:c.es.length<=4611686018427387904
 row:∀l∈c.ar,l.length<=4611686018427387
theorem FR {w:World} {v:Value} {c:Ce.Cert} {ao eo:Option Addr} {ca ce:Nat} (h:Ce.iD w v c ao eo ca ce) (hf:Ce.vg c) (ht:kO w):
 Calls prog 19 #[v] w fun e w'=>sr c e/\Below w.heap.size w w':=by
 rw[h.val];have ha:=h.ar;have he:=h.es;have h1:=hf.ar;have h2:=hf.es;have h3:=hf.row;clear h hf;obtain⟨pl,ar,es⟩:=c;dsimp only at ha he h1 h2 h3 ⊢;cases pl with
 |true=>
  cases es with
  |nil=>exact AZ ha h1 h3 ht
  |cons p r=>
   refine(vF (by simp)).mono fun e w' h=>⟨⟨fun _=>h.1,fun hg=> ?_⟩,h.2⟩
   unfold Ce.good at hg;rw[if_pos rfl] at hg;exact absurd hg.1 (by simp)
 |false=>
  cases ar with
  |nil=>exact A3 he h2 ht
  |cons p r=>
   refine(vG (by simp)).mono fun e w' h=>⟨⟨fun _=>h.1,fun hg=> ?_⟩,h.2⟩
   unfold Ce.good at hg;rw[if_neg (by simp)] at hg;exact absurd hg.1 (by simp)
end
end Go.Proofs.YtdbjpbjocmcpkaaGreatDoor
