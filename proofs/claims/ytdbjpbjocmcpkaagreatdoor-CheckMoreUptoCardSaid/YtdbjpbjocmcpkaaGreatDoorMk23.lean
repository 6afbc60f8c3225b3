import Derived.Test.YtdbjpbjocmcpkaaGreatDoorMk05
import Derived.Deep.CutBlock
import Derived.Handy
import Derived.Test.YtdbjpbjocmcpkaaGreatDoorMk06
import Derived.BigRegion
import Derived.Deep.RegionLaw
import Derived.Deep.CutRange
set_option maxHeartbeats 8000000
set_option maxRecDepth 100000
namespace Go.Proofs.YtdbjpbjocmcpkaaGreatDoor
section
open Go.Proofs.Tryz
open Go.RowKit
structure jY (w:World) (es:List (Int×Int)) (k:Nat) (la lb:Int) (W:World):Prop where
 low:Below w.heap.size w W
 last:W.heap[w.heap.size]? =some (.cells #[.int .i64 la,.int .i64 lb] 66 (0,0))
 one:∀(i:Nat) (p:Int×Int),i<k->es[i]? =some p->Ce.fN p.1/\Ce.fN p.2/\p.1<p.2
 two:∀(i:Nat) (p q:Int×Int),i+1<k->es[i]? =some p->es[i+1]? =some q->p.1<q.1\/(p.1=q.1/\p.2<q.2)
 zero:k=0->la=0/\lb=0
 prev:∀(j:Nat) (p:Int×Int),k=j+1->es[j]? =some p->(la,lb)=p
section
variable {w W W':World} {es:List (Int×Int)} {k:Nat} {la lb u v:Int}
theorem jY.later (h:jY w es k la lb W) (hb:Below W.heap.size W W'):jY w es k la lb W':=
 ⟨h.low.trans (hb.mono h.low.size),(hb.block _ (lt_of_block h.last)).trans h.last,h.one,h.two,h.zero,h.prev⟩
theorem jY.more (h:jY w es k la lb W) (he:es[k]? =some (u,v)) (h1:Ce.fN u/\Ce.fN v/\u<v) (h2:la<u\/(la=u/\lb<v)):jY w es (k+1) u v ((W.setCell ⟨w.heap.size,0,none⟩ (.int .i64 u)).setCell ⟨w.heap.size,1,none⟩ (.int .i64 v)):=by
 refine⟨(h.low.setCell (p:=⟨w.heap.size,0,none⟩) (aaD _) _).setCell (p:=⟨w.heap.size,1,none⟩) (aaD _) _,?_,fun i p hi hp=> ?_,fun i p q hi hp hq=> ?_,fun h=>absurd h (by omega),fun j p hj hp=> ?_⟩
 .rw[heap_setCell_same _ _ 1 _ _ _ (heap_setCell_same W _ 0 _ _ _ h.last)]
  simp
 .by_cases hik:i=k
  .subst hik
   rw[he] at hp;cases hp;exact h1
  .exact h.one i p (by omega) hp
 .by_cases hik:i+1=k
  .have:=h.prev i p (by omega) hp
   subst this;rw[hik,he] at hq;cases hq;exact h2
  .exact h.two i p q (by omega) hp hq
 .obtain rfl:k=j:=by omega
  rw[he] at hp;cases hp;rfl
theorem jY.no (h:jY w es k la lb W) (he:es[k]? =some (u,v)) (hn:¬((Ce.fN u/\Ce.fN v/\u<v)/\(la<u\/(la=u/\lb<v)))):¬Ce.Ax es:=fun ho=>by
 have h1:=ho.1.1 (u,v) (aaG he);dsimp only at h1;refine hn ⟨h1,?_⟩;cases k with
 |zero=>
  obtain⟨rfl,rfl⟩:=h.zero rfl;have:=h1.1.1;have:=h1.2.2;omega
 |succ j=>
  have hj:j<es.length:=by have:=(aaF.1 he).1;omega
  have hp:es[j]? =some es[j]:=aaC hj;have e:=h.prev j _ rfl hp;have h2:=ho.1.2 j _ (u,v) hp he;rw[<-e] at h2;exact h2
theorem jY.yes (h:jY w es es.length la lb W) (hl:es.length<=4194304):Ce.Ax es:=by
 refine⟨⟨fun p hp=> ?_,fun i p q hp hq=>h.two i p q (aaF.1 hq).1 hp hq⟩,hl⟩;obtain⟨i,hi⟩:=abf hp;exact h.one i p (aaF.1 hi).1 hi
theorem jY.start (w:World) (es:List (Int×Int)):jY w es 0 0 0 (w.alloc (.cells #[.int .i64 0,.int .i64 0] 66)):=
 ⟨(aaE _ _).alloc (aaD _) _,heap_alloc_new w _,fun i p h=>by omega,fun i p q h=>by omega,fun _=>⟨rfl,rfl⟩,fun j p h=>by omega⟩
end
theorem pH {w:World} {ao:Option Addr} {c:Nat} {es:List (Int×Int)} (h:ah w ao es) (hs:es.length<=4611686018427387904):
 Calls prog 335 #[.slice ao es.length c] w fun e w'=>Ce.Says e (Ce.Ax es)/\Below w.heap.size w w':=by
 obtain⟨n,hn⟩:∃n,es.length=n:=⟨_,rfl⟩;rw[hn] at hs ⊢;have HS:=ζ h;have HN:=ζ hn;clear h hn;by_cases hc:4194304<n
 .have vk:(4194304:Int)<(n:Int):=by omega
  go_enter func335,ntmps335;go_wp2;go_ret;exact⟨Ce.Says.no fun h=>by have:=h.2;have:=HN.out;omega,aaE _ _⟩
 .have vk:¬((4194304:Int)<(n:Int)):=by omega
  go_enter func335,ntmps335;go_wp2;go_loopw [11] (fun iv wr=>∃(k:Nat) (la lb:Int),k<=n/\iv= .int .i64 (k:Int)/\jY w es k la lb wr) (fun iv _=>n-(intOf iv).toNat)
  case atStart=>exact⟨0,0,0,aaL _,rfl,jY.start w es⟩
  case round=>
   obtain⟨k,la,lb,hk,rfl,hf⟩:=hrel;have HF:=ζ hf;clear hf;by_cases hlt:k<n
   .have aX:(k:Int)<(n:Int):=by omega
    obtain⟨⟨u,v⟩,he⟩:∃p,es[k]? =some p:=⟨_,aaC (by have:=HN.out;omega)⟩;obtain⟨b,o,rfl,g0,g1⟩:=(HS.out.later HF.out.low) k (u,v) he;dsimp only at g0 g1;have HE:=ζ he;have k0:(0:Int)<=(k:Int):=by omega
    have hf2:=HF.out.later ((aaE _ _).alloc (aaD _) (.cells #[.int .i64 u,.int .i64 v] 66));obtain⟨l0,l1,lf⟩:=eH hf2.last;have Iz:=ζ hf2;have G4:Hid (∀W,Calls prog 334 #[.int .i64 u] W fun e w'=>e= .returned (.bool (decide (0<=u/\u<=999999999)))/\w'=W):=fun W=>lC u W
    have G3:Hid (∀W,Calls prog 334 #[.int .i64 v] W fun e w'=>e= .returned (.bool (decide (0<=v/\v<=999999999)))/\w'=W):=fun W=>lC v W
    have Pr:Hid (∀W,Calls prog 227 #[.agg #[.int .i64 u,.int .i64 v],.agg #[.int .i64 la,.int .i64 lb]] W fun e w'=>e= .returned (.bool (decide (la<u\/(la=u/\lb<v))))/\Below W.heap.size W w'):=fun W=>NC u v la lb W
    clear he hf2;by_cases hu:0<=u/\u<=999999999
    .rw[decide_eq_true hu] at G4
     by_cases hv:0<=v/\v<=999999999
     .rw[decide_eq_true hv] at G3
      by_cases huv:v<=u
      .have mA:=ζ (HF.out.no HE.out fun h=>by have:=h.1.2.2;omega)
       clear hu hv;go_wp2_with (first|(go_at_call 334;with_reducible refine(G4.out _).mono ?_;rintro e w' ⟨rfl,hw'⟩;obtain rfl:=hw'.symm;clear hw')|(go_at_call 334;with_reducible refine(G3.out _).mono ?_;rintro e w' ⟨rfl,hw'⟩;obtain rfl:=hw'.symm;clear hw'));go_ret;exact⟨Ce.Says.no mA.out,Iz.out.low⟩
      .have hvu:¬u>=v:=huv
       by_cases hab:la<u\/(la=u/\lb<v)
       .rw[decide_eq_true hab] at Pr
        have iw:Hid ((Ce.fN u/\Ce.fN v/\u<v)/\(la<u\/(la=u/\lb<v))):=⟨⟨hu,hv,by omega⟩,hab⟩;clear hu hv hab;go_wp2_with (first|(go_at_call 334;with_reducible refine(G4.out _).mono ?_;rintro e w' ⟨rfl,hw'⟩;obtain rfl:=hw'.symm;clear hw')|(go_at_call 334;with_reducible refine(G3.out _).mono ?_;rintro e w' ⟨rfl,hw'⟩;obtain rfl:=hw'.symm;clear hw')|(go_at_call 227;with_reducible refine(Pr.out _).mono ?_;rintro e w6 ⟨rfl,pZ⟩;have M0:=Iz.out.later pZ;have m0:=(eH M0.last).1;have m1:=(eH M0.last).2.1;have mf:=(eH M0.last).2.2;have hz:=heap_alloc_new wr (.cells #[.int .i64 u,.int .i64 v] 66);have pV:=(pZ.block _ (lt_of_block hz)).trans hz;have n0:=(eH pV).1;have n1:=(eH pV).2.1;have ZC:=ζ M0;clear pZ M0 hz pV));go_roundw
        case rel=>exact⟨k+1,u,v,by omega,by go_num,ZC.out.more HE.out iw.out.1 iw.out.2⟩
        case measure=>simp[intOf];omega
       .rw[decide_eq_false hab] at Pr
        have mA:=ζ (HF.out.no HE.out fun h=>hab h.2);clear hu hv hab;go_wp2_with (first|(go_at_call 334;with_reducible refine(G4.out _).mono ?_;rintro e w' ⟨rfl,hw'⟩;obtain rfl:=hw'.symm;clear hw')|(go_at_call 334;with_reducible refine(G3.out _).mono ?_;rintro e w' ⟨rfl,hw'⟩;obtain rfl:=hw'.symm;clear hw')|(go_at_call 227;with_reducible refine(Pr.out _).mono ?_;rintro e w6 ⟨rfl,pZ⟩));go_ret;exact⟨Ce.Says.no mA.out,(Iz.out.later pZ).low⟩
     .rw[decide_eq_false hv] at G3
      have mA:=ζ (HF.out.no HE.out fun h=>hv h.1.2.1);clear hu hv;go_wp2_with (first|(go_at_call 334;with_reducible refine(G4.out _).mono ?_;rintro e w' ⟨rfl,hw'⟩;obtain rfl:=hw'.symm;clear hw')|(go_at_call 334;with_reducible refine(G3.out _).mono ?_;rintro e w' ⟨rfl,hw'⟩;obtain rfl:=hw'.symm;clear hw'));go_ret;exact⟨Ce.Says.no mA.out,Iz.out.low⟩
    .rw[decide_eq_false hu] at G4
     have mA:=ζ (HF.out.no HE.out fun h=>hu h.1.1);clear hu;go_wp2_with (first|(go_at_call 334;with_reducible refine(G4.out _).mono ?_;rintro e w' ⟨rfl,hw'⟩;obtain rfl:=hw'.symm;clear hw')|(go_at_call 334;with_reducible refine(G3.out _).mono ?_;rintro e w' ⟨rfl,hw'⟩;obtain rfl:=hw'.symm;clear hw'));go_ret;exact⟨Ce.Says.no mA.out,Iz.out.low⟩
   .have aX:¬((k:Int)<(n:Int)):=by omega
    obtain rfl:k=n:=by omega
    go_wp2;go_ret;have hf:=HF.out;rw[<-HN.out] at hf;exact⟨Ce.Says.yes (hf.yes (by have:=HN.out;omega)),HF.out.low⟩
end
section
open Go.RowKit
def Fp (w:World) (B b:Nat) (T P:List UInt8):Prop:=
 ∃L t,bW w B b L t/\L.length<=300000000/\((t=false/\L=P)\/(t=true/\33554432<T.length))
theorem Fp.line {w:World} {B b:Nat} {T P:List UInt8} (h:Fp w B b T P) (hB:B<=w.heap.size) {ao:Option Addr} {c:Nat} {l:List Int} (ha:aZ w ao l) (hok:∀x∈l,Ce.fN x) (hl:l.length<=4611686018427387) (ht:iE w) (hT:∃R,T=P++Ce.bK l++R):
 Calls Tryz.prog 78 #[.pointer (some ⟨b,0,none⟩),.slice ao l.length c] w fun e w'=>e= .returned (.tuple #[])/\Fp w' B b T (P++Ce.bK l)/\Below B w w':=by
 obtain⟨L,t,hw,hL,hx⟩:=h;rcases hx with ⟨rfl,rfl⟩|⟨rfl,eR⟩
 .by_cases hs:L.length+2*l.length<=33554432
  .refine(oZ hw hB ha hok ht hs).mono ?_
   rintro e w' ⟨he,h1,h2⟩;have:=Ce.kW l hok;exact⟨he,⟨_,_,h1,by rw[aaN];omega,.inl ⟨rfl,rfl⟩⟩,h2⟩
  .refine(o7 (ao:=ao) (c:=c) hw hl (.inr (by omega)) (by omega)).mono ?_
   rintro e w' ⟨he,h1,h2⟩;refine⟨he,⟨_,_,h1,hL,.inr ⟨rfl,?_⟩⟩,h2⟩;obtain⟨R,rfl⟩:=hT;have:=Ce.Mh l;rw[aaN,aaN];omega
 .refine(o7 (ao:=ao) (c:=c) hw hl (.inl rfl) (by omega)).mono ?_
  rintro e w' ⟨he,h1,h2⟩;exact⟨he,⟨_,_,h1,hL,.inr ⟨rfl,eR⟩⟩,h2⟩
theorem Fp.end {w:World} {B b:Nat} {T:List UInt8} (h:Fp w B b T T) (hT:T≠[]):
 ∃K:Nat,∃t:Bool,w.cell? ⟨b,2,none⟩=some (.bool t)/\(Calls Tryz.prog 79 #[.pointer (some ⟨b,0,none⟩)] w fun e w'=>e= .returned (.int .i64 (K:Int))/\w'=w)/\
  (t=true/\33554432<T.length\/t=false/\K=T.length/\Calls Tryz.prog 80 #[.pointer (some ⟨b,0,none⟩)] w fun e w'=>e= .returned (.string ⟨T.toArray⟩)/\Below B w w'):=by
 obtain⟨L,t,hw,hL,hx⟩:=h;obtain⟨p,h1⟩:=hw.some;obtain⟨vo,vc,-,-,c2,-,-⟩:=h1.cells;refine⟨L.length,t,c2,mN hw,?_⟩;rcases hx with ⟨rfl,rfl⟩|⟨rfl,eR⟩
 .exact .inr ⟨rfl,rfl,vP hw hT⟩
 .exact .inl ⟨rfl,eR⟩
end
section
open Go.RowKit
theorem dB {w:World} (h:iE w):∀W,Below w.heap.size w W->iE W:=fun W hW=>acH h W hW
theorem qg {α:Type} (f:α->List UInt8) (ls:List α) {k:Nat} {l:α} (h:ls[k]? =some l):(ls.take (k+1)).flatMap f=(ls.take k).flatMap f++f l:=by
 rw[abG,h,List.flatMap_append];simp
theorem uC {α:Type} (f:α->List UInt8) (ls:List α) {k:Nat} {l:α} (h:ls[k]? =some l):∃R,ls.flatMap f=(ls.take k).flatMap f++f l++R:=by
 refine⟨(ls.drop (k+1)).flatMap f,?_⟩;rw[<-qg f ls h,<-List.flatMap_append,ack]
theorem vQ {w:World} {ls:List (List Int)} {ao:Option Addr} {ca:Nat} (ha:Ce.gW w ao ls) (hg:Ce.I1 ls) (hl:∀l∈ls,l.length<=4611686018427387) (ht:iE w) (T:List UInt8) (hT:Ce.eP ⟨true,ls,[]⟩=T):
 Calls Tryz.prog 41 #[.iface 139 (.slice ao ls.length ca)] w fun e w'=>SV T e/\Below w.heap.size w w':=by
 have Z2:∀(v:Value) (w:World),(Instr.typeAssert (.iface 139 v) 92 139 true).run Tryz.prog w= .ok (.tuple #[v,.bool true]) w:=fun _ _=>by kernel_rfl
 obtain⟨n,hn⟩:∃n,ls.length=n:=⟨_,rfl⟩;have Yj:n<=1048576:=by have:=hg.2;omega
 have hok:Ce.fN (n:Int):=⟨by omega,by omega⟩;obtain⟨H,hH⟩:∃H,[112,32]++Ce.bK [(n:Int)]=H:=⟨_,rfl⟩;have GZ:T=H++ls.flatMap Ce.bK:=by
  rw[<-hT,<-hH];unfold Ce.eP Ce.E8 Ce.yG;simp[hn,Ce.bK,Ce.jn]
 have Su:T≠[]:=by rw[GZ,<-hH];simp
 have KL:H.length<=300000000:=by
  rw[<-hH];have:=Ce.kW [(n:Int)] (fun x hx=>by rw[aa6.1 hx];exact hok);simp at this ⊢;omega
 have hb0:Below w.heap.size w (w.alloc (.cells #[.pointer none,.slice none 0 0,.bool false] 146)):=(aaE _ _).alloc (aaD _) _;have zg:=ζ (qD (S:=[112,32]) (j8.new (B:=w.heap.size) w (aaD _)) (by simp) (by simp) hok (fun W hW=>dB ht W (hb0.trans hW)));rw[hH] at zg;have iG:=ζ (dB ht);have HA:=ζ ha;have HG:=ζ hg.1;have HL:=ζ hl;have HN:=ζ hn;have NN:=ζ GZ;have ze:=ζ KL;have aW:=ζ hb0;rw[hn];clear ha hg hl ht hn GZ KL hb0 hH hT;go_enter Tryz.func41,Tryz.ntmps41;go_wp2_with (go_at_call 77;refine zg.out.mono ?_;rintro e w1 ⟨rfl,hw1,hb1⟩;have yP:=ζ hw1;have aN:=ζ (aW.out.trans hb1);clear hw1 hb1);go_loopw [20] (fun iv wr=>∃k:Nat,k<=n/\iv= .int .i64 (k:Int)/\Fp wr w.heap.size w.heap.size T (H++(ls.take k).flatMap Ce.bK)/\Below w.heap.size w wr) (fun iv _=>n-(intOf iv).toNat)
 case atStart=>exact⟨0,aaL _,rfl,⟨H,false,yP.out,ze.out,.inl ⟨rfl,by simp⟩⟩,aN.out⟩
 case round=>
  obtain⟨k,hk,rfl,hw,hb⟩:=hrel;have HW:=ζ hw;have HB:=ζ hb;have hsz:=hb.size;by_cases hlt:k<n
  .have aX:(k:Int)<(n:Int):=by omega
   obtain⟨l,hlk⟩:∃l,ls[k]? =some l:=⟨_,aaC (by have:=HN.out;omega)⟩;obtain⟨b,o,xa,xc,rfl,c0,MV⟩:=(HA.out.later hb) k l hlk;have UW:=HL.out l (aaG hlk);have hxs:∃R,T=(H++(ls.take k).flatMap Ce.bK)++Ce.bK l++R:=by
    obtain⟨R,hR⟩:=uC Ce.bK ls hlk;exact⟨R,by rw[NN.out,hR];simp⟩
   have HC:=ζ (hw.line hsz (c:=xc) MV (fun x hx=>((HG.out l (aaG hlk)) x hx).1) UW (iG.out _ hb) hxs);have gX:=ζ hlk;have k0:(0:Int)<=(k:Int):=by omega
   clear hw hb MV hlk hxs;go_wp2_with (go_at_call 78;refine HC.out.mono ?_;rintro e w2 ⟨rfl,hw2,hb2⟩;have Il:=ζ hw2;have aC:=ζ (HB.out.trans hb2);clear hw2 hb2);go_roundw
   case rel=>exact⟨k+1,by omega,by go_num,by rw[qg Ce.bK ls gX.out,<-abr];exact Il.out,aC.out⟩
   case measure=>simp[intOf];omega
  .have aX:¬((k:Int)<(n:Int)):=by omega
   obtain rfl:k=n:=by omega
   have hte:ls.take k=ls:=by rw[<-HN.out];exact abn
   rw[hte,<-NN.out] at hw;obtain⟨K,t,c2,hlen,hx⟩:=hw.end Su;have HLEN:=ζ hlen;clear hw hb hlen;rcases hx with ⟨rfl,eR⟩|⟨rfl,rfl,Eb⟩
   .go_wp2
    go_ret2;exact⟨.inl ⟨eR,rfl⟩,HB.out⟩
   .have NR:=ζ Eb
    clear Eb;by_cases eR:33554432<T.length
    .have rz:(33554432:Int)<(T.length:Int):=by omega
     go_wp2_with (go_at_call 79;refine HLEN.out.mono ?_;rintro e w' ⟨rfl,hw'⟩;obtain rfl:=hw'.symm;clear hw');go_ret2;exact⟨.inl ⟨eR,rfl⟩,HB.out⟩
    .have rz:¬((33554432:Int)<(T.length:Int)):=by omega
     go_wp2_with (first|(go_at_call 79;refine HLEN.out.mono ?_;rintro e w' ⟨rfl,hw'⟩;obtain rfl:=hw'.symm;clear hw')|(go_at_call 80;refine NR.out.mono ?_;rintro e w4 ⟨rfl,hb4⟩;have eZ:=ζ (HB.out.trans hb4);clear hb4));go_ret2;exact⟨.inr ⟨by omega,rfl⟩,eZ.out⟩
end
section
open Go.Proofs.Tryz
open Go.RowKit
theorem qj (p:Int×Int):Ce.jq p=Ce.bK [p.1,p.2]:=by
 unfold Ce.jq Ce.bK;simp[Ce.jn]
theorem vR {w:World} {es:List (Int×Int)} {ao:Option Addr} {ca:Nat} (ha:ah w ao es) (hg:Ce.Ax es) (ht:iE w) (T:List UInt8) (hT:Ce.eP ⟨false,[],es⟩=T):
 Calls prog 41 #[.iface 140 (.slice ao es.length ca)] w fun e w'=>SV T e/\Below w.heap.size w w':=by
 have Z1:∀(v:Value) (w:World),(Instr.typeAssert (.iface 140 v) 92 139 true).run prog w= .ok (.tuple #[.slice none 0 0,.bool false]) w:=fun _ _=>by kernel_rfl
 have Z0:∀(v:Value) (w:World),(Instr.typeAssert (.iface 140 v) 92 140 true).run prog w= .ok (.tuple #[v,.bool true]) w:=fun _ _=>by kernel_rfl
 obtain⟨n,hn⟩:∃n,es.length=n:=⟨_,rfl⟩;have Yj:n<=4194304:=by have:=hg.2;omega
 have hok:Ce.fN (n:Int):=⟨by omega,by omega⟩;obtain⟨H,hH⟩:∃H,[110,32]++Ce.bK [(n:Int)]=H:=⟨_,rfl⟩;have GZ:T=H++es.flatMap Ce.jq:=by
  rw[<-hT,<-hH];unfold Ce.eP Ce.E8 Ce.yG;simp[hn,Ce.bK,Ce.jn]
 have Su:T≠[]:=by rw[GZ,<-hH];simp
 have KL:H.length<=300000000:=by
  rw[<-hH];have:=Ce.kW [(n:Int)] (fun x hx=>by rw[aa6.1 hx];exact hok);simp at this ⊢;omega
 have hb0:Below w.heap.size w (w.alloc (.cells #[.pointer none,.slice none 0 0,.bool false] 146)):=(aaE _ _).alloc (aaD _) _;have zg:=ζ (qD (S:=[110,32]) (j8.new (B:=w.heap.size) w (aaD _)) (by simp) (by simp) hok (fun W hW=>dB ht W (hb0.trans hW)));rw[hH] at zg;have iG:=ζ (dB ht);have HA:=ζ ha;have HG:=ζ hg.1;have HN:=ζ hn;have NN:=ζ GZ;have ze:=ζ KL;have aW:=ζ hb0;rw[hn];clear ha hg ht hn GZ KL hb0 hH hT;go_enter func41,ntmps41;go_wp2_with (go_at_call 77;refine zg.out.mono ?_;rintro e w1 ⟨rfl,hw1,hb1⟩;have yP:=ζ hw1;have aN:=ζ (aW.out.trans hb1);clear hw1 hb1);go_loopw [35] (fun iv wr=>∃k:Nat,k<=n/\iv= .int .i64 (k:Int)/\Fp wr w.heap.size w.heap.size T (H++(es.take k).flatMap Ce.jq)/\Below w.heap.size w wr) (fun iv _=>n-(intOf iv).toNat)
 case atStart=>exact⟨0,aaL _,rfl,⟨H,false,yP.out,ze.out,.inl ⟨rfl,by simp⟩⟩,aN.out⟩
 case round=>
  obtain⟨k,hk,rfl,hw,hb⟩:=hrel;have HW:=ζ hw;have HB:=ζ hb;have hsz:=hb.size;by_cases hlt:k<n
  .have aX:(k:Int)<(n:Int):=by omega
   obtain⟨⟨u,v⟩,hlk⟩:∃p,es[k]? =some p:=⟨_,aaC (by have:=HN.out;omega)⟩;obtain⟨b,o,rfl,g0,g1⟩:=(HA.out.later hb) k (u,v) hlk;dsimp only at g0 g1;have hmm:=aaG hlk;have hxs:∃R,T=(H++(es.take k).flatMap Ce.jq)++Ce.bK [u,v]++R:=by
    obtain⟨R,hR⟩:=uC Ce.jq es hlk;exact⟨R,by rw[NN.out,hR,qj];simp⟩
   have hz1:Below wr.heap.size wr (wr.alloc (.cells #[.int .i64 u,.int .i64 v] 66)):=(aaE _ _).alloc (aaD _) _;have hz2:Below wr.heap.size wr ((wr.alloc (.cells #[.int .i64 u,.int .i64 v] 66)).alloc (.cells #[.int .i64 u,.int .i64 v] 3)):=hz1.alloc (by simp) _;have hI:aZ ((wr.alloc (.cells #[.int .i64 u,.int .i64 v] 66)).alloc (.cells #[.int .i64 u,.int .i64 v] 3)) (some ⟨(wr.alloc (.cells #[.int .i64 u,.int .i64 v] 66)).heap.size,0,none⟩) [u,v]:=aq.at (l:=[u,v]) (heap_alloc_new _ _);rw[aa1] at hI;have Ul:Fp ((wr.alloc (.cells #[.int .i64 u,.int .i64 v] 66)).alloc (.cells #[.int .i64 u,.int .i64 v] 3)) w.heap.size w.heap.size T (H++(es.take k).flatMap Ce.jq):=by
    obtain⟨L,t,h1,h2⟩:=hw;exact⟨L,t,h1.later hz2,h2⟩
   have HZ:=ζ (hb.trans (hz2.mono hsz));have HC:=ζ (Ul.line (l:=[u,v]) (c:=2) (by simp;omega) hI (fun x hx=>by
    have:=HG.out.1 (u,v) hmm;simp at hx;rcases hx with rfl|rfl
    .exact this.1
    .exact this.2.1) (by simp) (iG.out _ HZ.out) hxs)
   have gX:=ζ hlk;have k0:(0:Int)<=(k:Int):=by omega
   clear hw hb hlk hxs hz1 hz2 hI Ul hmm;go_wp2_with (go_at_call 78;refine HC.out.mono ?_;rintro e w2 ⟨rfl,hw2,hb2⟩;have Il:=ζ hw2;have aC:=ζ (HZ.out.trans hb2);clear hw2 hb2);go_roundw
   case rel=>exact⟨k+1,by omega,by go_num,by rw[qg Ce.jq es gX.out,<-abr,qj];exact Il.out,aC.out⟩
   case measure=>simp[intOf];omega
  .have aX:¬((k:Int)<(n:Int)):=by omega
   obtain rfl:k=n:=by omega
   have hte:es.take k=es:=by rw[<-HN.out];exact abn
   rw[hte,<-NN.out] at hw;obtain⟨K,t,c2,hlen,hx⟩:=hw.end Su;have HLEN:=ζ hlen;clear hw hb hlen;rcases hx with ⟨rfl,eR⟩|⟨rfl,rfl,Eb⟩
   .go_wp2
    go_ret2;exact⟨.inl ⟨eR,rfl⟩,HB.out⟩
   .have NR:=ζ Eb
    clear Eb;by_cases eR:33554432<T.length
    .have rz:(33554432:Int)<(T.length:Int):=by omega
     go_wp2_with (go_at_call 79;refine HLEN.out.mono ?_;rintro e w' ⟨rfl,hw'⟩;obtain rfl:=hw'.symm;clear hw');go_ret2;exact⟨.inl ⟨eR,rfl⟩,HB.out⟩
    .have rz:¬((33554432:Int)<(T.length:Int)):=by omega
     go_wp2_with (first|(go_at_call 79;refine HLEN.out.mono ?_;rintro e w' ⟨rfl,hw'⟩;obtain rfl:=hw'.symm;clear hw')|(go_at_call 80;refine NR.out.mono ?_;rintro e w4 ⟨rfl,hb4⟩;have eZ:=ζ (HB.out.trans hb4);clear hb4));go_ret2;exact⟨.inr ⟨by omega,rfl⟩,eZ.out⟩
end
section
open Go.Proofs.Tryz
open Go.RowKit
theorem fT (w:World) (ao eo:Option Addr) (na ca ne ce:Nat):
 Calls prog 40 #[.agg #[.bool true,.slice ao na ca,.slice eo ne ce]] w fun e w'=>e= .returned (.tuple #[.iface 139 (.slice ao na ca),.bool ((ne:Int)==0)])/\Below w.heap.size w w':=by
 go_enter func40,ntmps40;go_wp2_with fail;go_quiet (fail);go_wp2;go_ret2;exact⟨rfl,below_drewN ((aaE _ _).alloc (aaD _) _) _⟩
theorem fU (w:World) (ao eo:Option Addr) (na ca ne ce:Nat):
 Calls prog 40 #[.agg #[.bool false,.slice ao na ca,.slice eo ne ce]] w fun e w'=>e= .returned (.tuple #[.iface 140 (.slice eo ne ce),.bool ((na:Int)==0)])/\Below w.heap.size w w':=by
 go_enter func40,ntmps40;go_wp2_with fail;go_quiet (fail);go_wp2;go_ret2;exact⟨rfl,below_drewN ((aaE _ _).alloc (aaD _) _) _⟩
theorem wP {w:World} {ls:List (List Int)} {ao eo:Option Addr} {ca ce:Nat} (ha:Ce.gW w ao ls) (hs:ls.length<=4611686018427387904) (hl:∀l∈ls,l.length<=4611686018427387) (ht:iE w):
 Calls prog 19 #[.agg #[.bool true,.slice ao ls.length ca,.slice eo 0 ce]] w fun e w'=>vN ⟨true,ls,[]⟩ e/\Below w.heap.size w w':=by
 have hz:Below w.heap.size w (w.alloc (.cells #[.bool true,.slice ao ls.length ca,.slice eo 0 ce] 27)):=(aaE _ _).alloc (aaD _) _;have hgd:Ce.good ⟨true,ls,[]⟩↔Ce.I1 ls:=by
  unfold Ce.good;rw[if_pos rfl];exact⟨fun h=>⟨h.2.1,h.2.2⟩,fun h=>⟨rfl,h.1,h.2⟩⟩
 have HZ:=ζ hz;have HA:=ζ ha;have CO:=ζ hgd;clear hz ha hgd;by_cases hok:Ce.I1 ls
 .have iw:=ζ hok
  clear hok;go_enter func19,ntmps19
  go_wp2_with (first
   |(go_at_call 40;refine(fT _ _ _ _ _ _ _).mono ?_;rintro e w1 ⟨rfl,hb1⟩;have HB:=ζ (HZ.out.trans (hb1.mono HZ.out.size));clear hb1)
   |(go_at_call 333;refine(pG (c:=ca) (HA.out.later HB.out) hs (fun l h=>aaM (hl l h) (by omega))).mono ?_;rintro e w2 ⟨⟨t,rfl,xH⟩,hb2⟩;obtain rfl:=xH.2 iw.out;have aC:=ζ (HB.out.trans (hb2.mono HB.out.size));clear hb2 xH)
   |(go_at_call 41;refine(vQ (ca:=ca) (HA.out.later aC.out) iw.out hl (dB ht _ aC.out) _ rfl).mono ?_;rintro e w3 ⟨hp,hb3⟩;rcases hp with ⟨sR,rfl⟩|⟨sR,rfl⟩))
  .go_ret2
   exact⟨⟨fun hn=>absurd (CO.out.2 iw.out) hn,fun _=> .inl ⟨sR,rfl⟩⟩,aC.out.trans (hb3.mono aC.out.size)⟩
  .go_ret2
   exact⟨⟨fun hn=>absurd (CO.out.2 iw.out) hn,fun _=> .inr ⟨sR,rfl⟩⟩,aC.out.trans (hb3.mono aC.out.size)⟩
 .have iw:=ζ hok
  clear hok;go_enter func19,ntmps19
  go_wp2_with (first
   |(go_at_call 40;refine(fT _ _ _ _ _ _ _).mono ?_;rintro e w1 ⟨rfl,hb1⟩;have HB:=ζ (HZ.out.trans (hb1.mono HZ.out.size));clear hb1)
   |(go_at_call 333;refine(pG (c:=ca) (HA.out.later HB.out) hs (fun l h=>aaM (hl l h) (by omega))).mono ?_;rintro e w2 ⟨⟨t,rfl,xH⟩,hb2⟩;obtain rfl:t=false:=by { cases t with|false=>rfl|true=>exact absurd (xH.1 rfl) iw.out };have aC:=ζ (HB.out.trans (hb2.mono HB.out.size));clear hb2 xH))
  go_ret2;exact⟨⟨fun _=>rfl,fun h=>absurd (CO.out.1 h) iw.out⟩,aC.out⟩
theorem qT {w:World} {na ne:Nat} {ao eo:Option Addr} {ca ce:Nat} (hn:ne≠0):
 Calls prog 19 #[.agg #[.bool true,.slice ao na ca,.slice eo ne ce]] w fun e w'=>e= .returned (.tuple #[.string ⟨#[]⟩,.int .i64 170])/\Below w.heap.size w w':=by
 have hz:Below w.heap.size w (w.alloc (.cells #[.bool true,.slice ao na ca,.slice eo ne ce] 27)):=(aaE _ _).alloc (aaD _) _;have hni:((ne:Int)==0)=false:=by simp[hn]
 go_enter func19,ntmps19;go_wp2_with (go_at_call 40;refine(fT _ _ _ _ _ _ _).mono ?_;rw[hni];rintro e w1 ⟨rfl,hb1⟩);go_ret2;exact⟨rfl,hz.trans (hb1.mono hz.size)⟩
theorem wQ {w:World} {es:List (Int×Int)} {ao eo:Option Addr} {ca ce:Nat} (ha:ah w eo es) (hs:es.length<=4611686018427387904) (ht:iE w):
 Calls prog 19 #[.agg #[.bool false,.slice ao 0 ca,.slice eo es.length ce]] w fun e w'=>vN ⟨false,[],es⟩ e/\Below w.heap.size w w':=by
 have hz:Below w.heap.size w (w.alloc (.cells #[.bool false,.slice ao 0 ca,.slice eo es.length ce] 27)):=(aaE _ _).alloc (aaD _) _;have hgd:Ce.good ⟨false,[],es⟩↔Ce.Ax es:=by
  unfold Ce.good;rw[if_neg (by simp)];exact⟨fun h=>⟨h.2.1,h.2.2⟩,fun h=>⟨rfl,h.1,h.2⟩⟩
 have HZ:=ζ hz;have HA:=ζ ha;have CO:=ζ hgd;clear hz ha hgd;by_cases hok:Ce.Ax es
 .have iw:=ζ hok
  clear hok;go_enter func19,ntmps19
  go_wp2_with (first
   |(go_at_call 40;refine(fU _ _ _ _ _ _ _).mono ?_;rintro e w1 ⟨rfl,hb1⟩;have HB:=ζ (HZ.out.trans (hb1.mono HZ.out.size));clear hb1)
   |(go_at_call 335;refine(pH (c:=ce) (HA.out.later HB.out) hs).mono ?_;rintro e w2 ⟨⟨t,rfl,xH⟩,hb2⟩;obtain rfl:=xH.2 iw.out;have aC:=ζ (HB.out.trans (hb2.mono HB.out.size));clear hb2 xH)
   |(go_at_call 41;refine(vR (ca:=ce) (HA.out.later aC.out) iw.out (dB ht _ aC.out) _ rfl).mono ?_;rintro e w3 ⟨hp,hb3⟩;rcases hp with ⟨sR,rfl⟩|⟨sR,rfl⟩))
  .go_ret2
   exact⟨⟨fun hn=>absurd (CO.out.2 iw.out) hn,fun _=> .inl ⟨sR,rfl⟩⟩,aC.out.trans (hb3.mono aC.out.size)⟩
  .go_ret2
   exact⟨⟨fun hn=>absurd (CO.out.2 iw.out) hn,fun _=> .inr ⟨sR,rfl⟩⟩,aC.out.trans (hb3.mono aC.out.size)⟩
 .have iw:=ζ hok
  clear hok;go_enter func19,ntmps19
  go_wp2_with (first
   |(go_at_call 40;refine(fU _ _ _ _ _ _ _).mono ?_;rintro e w1 ⟨rfl,hb1⟩;have HB:=ζ (HZ.out.trans (hb1.mono HZ.out.size));clear hb1)
   |(go_at_call 335;refine(pH (c:=ce) (HA.out.later HB.out) hs).mono ?_;rintro e w2 ⟨⟨t,rfl,xH⟩,hb2⟩;obtain rfl:t=false:=by { cases t with|false=>rfl|true=>exact absurd (xH.1 rfl) iw.out };have aC:=ζ (HB.out.trans (hb2.mono HB.out.size));clear hb2 xH))
  go_ret2;exact⟨⟨fun _=>rfl,fun h=>absurd (CO.out.1 h) iw.out⟩,aC.out⟩
theorem qU {w:World} {na ne:Nat} {ao eo:Option Addr} {ca ce:Nat} (hn:na≠0):
 Calls prog 19 #[.agg #[.bool false,.slice ao na ca,.slice eo ne ce]] w fun e w'=>e= .returned (.tuple #[.string ⟨#[]⟩,.int .i64 170])/\Below w.heap.size w w':=by
 have hz:Below w.heap.size w (w.alloc (.cells #[.bool false,.slice ao na ca,.slice eo ne ce] 27)):=(aaE _ _).alloc (aaD _) _;have hni:((na:Int)==0)=false:=by simp[hn]
 go_enter func19,ntmps19;go_wp2_with (go_at_call 40;refine(fU _ _ _ _ _ _ _).mono ?_;rw[hni];rintro e w1 ⟨rfl,hb1⟩);go_ret2;exact⟨rfl,hz.trans (hb1.mono hz.size)⟩
structure Ce.qB (c:Ce.Cert):Prop where
 ar:c.ar.length<=4611686018427387904
 es:c.es.length<=4611686018427387904
 row:∀l∈c.ar,l.length<=4611686018427387
theorem BH {w:World} {v:Value} {c:Ce.Cert} {ao eo:Option Addr} {ca ce:Nat} (h:Ce.jV w v c ao eo ca ce) (hf:Ce.qB c) (ht:iE w):
 Calls prog 19 #[v] w fun e w'=>vN c e/\Below w.heap.size w w':=by
 rw[h.val];have ha:=h.ar;have he:=h.es;have h1:=hf.ar;have h2:=hf.es;have h3:=hf.row;clear h hf;obtain⟨pl,ar,es⟩:=c;dsimp only at ha he h1 h2 h3 ⊢;cases pl with
 |true=>
  cases es with
  |nil=>exact wP ha h1 h3 ht
  |cons p r=>
   refine(qT (by simp)).mono fun e w' h=>⟨⟨fun _=>h.1,fun hg=> ?_⟩,h.2⟩
   unfold Ce.good at hg;rw[if_pos rfl] at hg;exact absurd hg.1 (by simp)
 |false=>
  cases ar with
  |nil=>exact wQ he h2 ht
  |cons p r=>
   refine(qU (by simp)).mono fun e w' h=>⟨⟨fun _=>h.1,fun hg=> ?_⟩,h.2⟩
   unfold Ce.good at hg;rw[if_neg (by simp)] at hg;exact absurd hg.1 (by simp)
end
section
open Go.Proofs.Tryz
open Go.RowKit
theorem Tryz.infoTree:(prog.info? 386).map (fun i=>(i.zero,i.size,i.bytes))=some (some (.agg #[.int .i64 0,.int .i64 0]),2,16):=by kernel_rfl
theorem Gu {W:World} {k n:Nat} (h:W.heap.size=k):aB (W.alloc (.cells (madeCells #[.int .i64 0] n) 3)) k (Co.ints n (fun _=>0)):=by
 subst h;refine⟨[],?_⟩;rw[heap_alloc_new,abp,Co.xE,<-dz]
theorem DN {W:World} {k n:Nat} (h:W.heap.size=k):bE (W.alloc (.cells (madeCells #[.int .i64 0,.int .i64 0] (n*2)) 386)) k n (fun _=>0) (fun _=>0):=by
 subst h;have hc:∀j,j<n*2->(madeCells #[Value.int .i64 0,Value.int .i64 0] (n*2)).toList[j]? =some (.int .i64 0):=fun j hj=>by
  have e:(madeCells #[Value.int .i64 0,Value.int .i64 0] (n*2)).toList=(List.range (n*2)).map (fun x=>[Value.int .i64 0,Value.int .i64 0][x%2]?.getD default):=by simp[madeCells]
  rw[e,aaY,ab8 hj];rcases abt j with h|h<;>simp[h]
 refine⟨(madeCells #[Value.int .i64 0,Value.int .i64 0] (n*2)).toList,by rw[heap_alloc_new],by rw[Array.length_toList,size_madeCells],fun i hi=>⟨hc _ (by omega),hc _ (by omega)⟩⟩
theorem bE.alloc {w:World} {g n:Nat} {S L:Nat->Nat} (h:bE w g n S L) (o:Obj):bE (w.alloc o) g n S L:=h.same (aaO w o g h.lt)
theorem JS {W:World} {p gp gt n:Nat} (h:W.heap.size=p):(W.alloc (.cells #[.slice (some ⟨gp,0,none⟩) n n,.slice (some ⟨gt,0,none⟩) n n,.int .i64 (n:Int)] 384)).heap[p]? =some (.cells #[.slice (some ⟨gp,0,none⟩) n n,.slice (some ⟨gt,0,none⟩) n n,.int .i64 (n:Int)] 384 (0,0)):=by
 subst h;exact heap_alloc_new W _
def yM (n k p:Nat) (w wr:World):Prop:=
 ∃gp gt P S L,aY wr p gp gt n n P S L/\(∀i,i<k->P i=i/\S i=1/\L i=i)/\w.heap.size<=p/\w.heap.size<=gp/\w.heap.size<=gt/\Below w.heap.size w wr
def Lg (n:Int) (w:World) (e:Ending) (w':World):Prop:=
 ((∃k p gp gt:Nat,n=(k:Int)/\k<=1048576/\e= .returned (.tuple #[.pointer (some ⟨p,0,none⟩),.int .i64 0])/\dO w' p gp gt k (fun x=>x)/\w.heap.size<=p/\w.heap.size<=gp/\w.heap.size<=gt)\/((n<0\/1048576<n)/\e= .returned (.tuple #[.pointer none,.int .i64 2])))/\Below w.heap.size w w'
theorem LY (n:Int) (w:World):Calls prog 287 #[.int .i64 n] w (Lg n w):=by
 obtain⟨i0,hi,hz0,hz1,hz2⟩:=info_parts Tryz.ck;obtain⟨i1,hi1,hy0,hy1,hy2⟩:=info_parts Tryz.infoTree;by_cases h1:n<0
 .go_enter func287,ntmps287
  go_wp2;go_ret2;exact⟨.inr ⟨.inl h1,rfl⟩,aaE _ _⟩
 by_cases h2:1048576<n
 .go_enter func287,ntmps287
  go_wp2;go_ret2;exact⟨.inr ⟨.inr h2,rfl⟩,aaE _ _⟩
 obtain⟨k,rfl⟩:∃k:Nat,n=(k:Int):=⟨n.toNat,by omega⟩;have hkn:k<=1048576:=by omega
 have hm1:∀W,(Instr.makeSlice 381 (.int .i64 (k:Int)) (.int .i64 (k:Int))).run prog W= .ok (.slice (some ⟨W.heap.size,0,none⟩) k k) (W.alloc (.cells (madeCells #[.int .i64 0] k) 3)):=fun W=>by
  have:=run_make (P:=prog) W 381 3 i0 (.int .i64 0) Tryz.underlying381 hi hz0 .i64 .i64 (k:Int) (k:Int) (by omega) (aci _) (by rw[hz2];omega) (by omega);rw[this,hz1];simp[Value.cells]
 have hm2:∀W,(Instr.makeSlice 382 (.int .i64 (k:Int)) (.int .i64 (k:Int))).run prog W= .ok (.slice (some ⟨W.heap.size,0,none⟩) k k) (W.alloc (.cells (madeCells #[.int .i64 0,.int .i64 0] (k*2)) 386)):=fun W=>by
  have:=run_make (P:=prog) W 382 386 i1 (.agg #[.int .i64 0,.int .i64 0]) Tryz.underlying382 hi1 hy0 .i64 .i64 (k:Int) (k:Int) (by omega) (aci _) (by rw[hy2];omega) (by omega);rw[this,hy1];simp[Value.cells]
 go_enter func287,ntmps287
 go_upto_region 3 with fail
 go_cut [4] from 12 to 18 (fun x wr=>∃p:Nat,x= .pointer (some ⟨p,0,none⟩)/\yM k 0 p w wr)
 case first=>
  go_wp2_with fail
  go_region
  all_goals go_wp2_with fail
  all_goals go_meet
  all_goals
   refine⟨_,rfl,_,_,fun _=>0,fun _=>0,fun _=>0,⟨JS (by simp),?_,?_,?_,?_,?_⟩,fun i hi=>by omega,?_,?_,?_,?_⟩
   .repeat (first|(refine Gu ?_;simp;done)|refine aB.alloc ?_ _)
   .repeat (first|(refine DN ?_;simp;done)|refine bE.alloc ?_ _)
   .omega
   .omega
   .omega
   .omega
   .omega
   .omega
   .repeat (first|exact aaE _ _|refine abU ?_|refine abK ?_ (by first|omega|(simp;done)|(simp;omega)) _)
 case rest=>
  obtain⟨p,rfl,hmid⟩:=hcut;have JC:=ζ hmid;clear hmid hm1 hm2;go_wp2;go_loopw [20] (fun c wr=>∃j:Nat,j<=k/\c= .int .i64 (j:Int)/\yM k j p w wr) (fun c _=>k-(intOf c).toNat)
  case atStart=>exact⟨0,aaL _,rfl,JC.out⟩
  case round=>
   obtain⟨j,hj,rfl,gp,gt,P,S,L,hH,hall,b1,b2,b3,hb⟩:=hrel;by_cases hlt:j<k
   .have aX:(j:Int)<(k:Int):=by omega
    have hj0:(0:Int)<=(j:Int):=by omega
    obtain⟨W,hW⟩:∃W,W=wr.setCell ⟨gp,j,none⟩ (.int .i64 (j:Int)):=⟨_,rfl⟩;have q1:=hH.par.set (i:=j) (by rw[Co.cJ];exact hlt) (j:Int);rw[Co.ints_set j hlt,<-hW] at q1;have q2:W.heap[p]? =wr.heap[p]? :=by rw[hW];exact heap_setCell_other wr ⟨gp,j,none⟩ p _ hH.d1
    have q3:W.heap[gt]? =wr.heap[gt]? :=by rw[hW];exact heap_setCell_other wr ⟨gp,j,none⟩ gt _ (abM hH.d3)
    have T1:=hH.pP.same q3;obtain⟨T2,t1,t2⟩:=T1.put hlt 1 j;have c0:=hH.c0;have c1:W.cell? ⟨p,1,none⟩=some (.slice (some ⟨gt,0,none⟩) k k):=by simp[World.cell?,q2,hH.blk]
    have p0:=hH.par.cell (Co.ints_at (f:=P) hlt);have pf:=hH.par.free;have tc:=(T1.cell hlt).1;have tf:=T1.free;obtain⟨v1,v2⟩:=hH.pP.cell hlt;have vf:=hH.pP.free;rw[show((1:Nat):Int)=1 from rfl] at t1 t2;have jE:Hid (yM k (j+1) p w ((W.setCell ⟨gt,j*2,none⟩ (.int .i64 1)).setCell ⟨gt,j*2+1,none⟩ (.int .i64 (j:Int)))):=by
     refine⟨gp,gt,_,_,_,⟨?_,(q1.other (i:=j*2) hH.d3 _).other (i:=j*2+1) hH.d3 _,T2,hH.d1,hH.d2,hH.d3⟩,fun i hi=> ?_,b1,b2,b3,?_⟩
     .rw[heap_setCell_other _ ⟨gt,j*2+1,none⟩ p _ hH.d2,heap_setCell_other _ ⟨gt,j*2,none⟩ p _ hH.d2,q2]
      exact hH.blk
     .by_cases e:i=j
      .subst e
       rw[Co.upd_same,Co.upd_same,Co.upd_same];exact⟨rfl,rfl,rfl⟩
      .rw[Co.aU _ e,Co.aU _ e,Co.aU _ e]
       exact hall i (by omega)
     .rw[hW]
      exact((hb.setCell (p:=⟨gp,j,none⟩) b2 _).setCell (p:=⟨gt,j*2,none⟩) b3 _).setCell (p:=⟨gt,j*2+1,none⟩) b3 _
    clear hH hall hb q1 q2 q3 T1 T2;subst hW;go_wp2;go_roundw
    case rel=>exact⟨j+1,by omega,by go_num,jE.out⟩
    case measure=>simp[intOf];omega
   .have hd:¬((j:Int)<(k:Int)):=by omega
    obtain rfl:j=k:=by omega
    have jE:Hid (dO wr p gp gt j (fun x=>x)):=by
     refine⟨hkn,_,_,_,_,_,?_,Co.G9 j⟩;rw[Co.Js];refine⟨hH.blk,?_,hH.pP.congr (fun i hi=>(hall i hi).2.1) (fun i hi=>(hall i hi).2.2),hH.d1,hH.d2,hH.d3⟩;rw[<-Co.ur (fun i hi=>(hall i hi).1)];exact hH.par
    have HB:=ζ hb;clear hH hall hb;go_wp2;go_ret2;exact⟨.inl ⟨j,p,gp,gt,rfl,hkn,rfl,jE.out,b1,b2,b3⟩,HB.out⟩
end
end Go.Proofs.YtdbjpbjocmcpkaaGreatDoor
