import Derived.Test.YtdbjpbjocmcpkaaGreatDoorMj32
import Derived.Handy
import Derived.Test.YtdbjpbjocmcpkaaGreatDoorMj05
import Derived.BigRegion
import Derived.Deep.RegionLaw
import Derived.Deep.CutRange
set_option maxHeartbeats 8000000
set_option maxRecDepth 100000
namespace Go.Proofs.YtdbjpbjocmcpkaaGreatDoor
section
open Go.RowKit
def M3 (w:World) (B b:Nat) (T P:List UInt8):Prop:=
 ∃L t,dL w B b L t/\L.length<=300000000/\((t=false/\L=P)\/(t=true/\33554432<T.length))
theorem M3.line {w:World} {B b:Nat} {T P:List UInt8} (h:M3 w B b T P) (hB:B<=w.heap.size) {ao:Option Addr} {c:Nat} {l:List Int} (ha:aV w ao l) (hok:∀x∈l,Ce.dR x) (hl:l.length<=4611686018427387) (ht:lC w) (hT:∃R,T=P++Ce.bJ l++R):
 Calls Tryz.prog 78 #[.pointer (some ⟨b,0,none⟩),.slice ao l.length c] w fun e w'=>e= .returned (.tuple #[])/\M3 w' B b T (P++Ce.bJ l)/\Below B w w':=by
 obtain⟨L,t,hw,hL,hx⟩:=h;rcases hx with ⟨rfl,rfl⟩|⟨rfl,iL⟩
 .by_cases hs:L.length+2*l.length<=33554432
  .refine(uW hw hB ha hok ht hs).mono ?_
   rintro e w' ⟨he,h1,h2⟩;have:=Ce.xO l hok;exact⟨he,⟨_,_,h1,by rw[aaZ];omega,.inl ⟨rfl,rfl⟩⟩,h2⟩
  .refine(uX (ao:=ao) (c:=c) hw hl (.inr (by omega)) (by omega)).mono ?_
   rintro e w' ⟨he,h1,h2⟩;refine⟨he,⟨_,_,h1,hL,.inr ⟨rfl,?_⟩⟩,h2⟩;obtain⟨R,rfl⟩:=hT;have:=Ce.K6 l;rw[aaZ,aaZ];omega
 .refine(uX (ao:=ao) (c:=c) hw hl (.inl rfl) (by omega)).mono ?_
  rintro e w' ⟨he,h1,h2⟩;exact⟨he,⟨_,_,h1,hL,.inr ⟨rfl,iL⟩⟩,h2⟩
theorem M3.end {w:World} {B b:Nat} {T:List UInt8} (h:M3 w B b T T) (hT:T≠[]):
 ∃K:Nat,∃t:Bool,w.cell? ⟨b,2,none⟩=some (.bool t)/\(Calls Tryz.prog 79 #[.pointer (some ⟨b,0,none⟩)] w fun e w'=>e= .returned (.int .i64 (K:Int))/\w'=w)/\
  (t=true/\33554432<T.length\/t=false/\K=T.length/\Calls Tryz.prog 80 #[.pointer (some ⟨b,0,none⟩)] w fun e w'=>e= .returned (.string ⟨T.toArray⟩)/\Below B w w'):=by
 obtain⟨L,t,hw,hL,hx⟩:=h;obtain⟨p,h1⟩:=hw.some;obtain⟨vo,vc,-,-,c2,-,-⟩:=h1.cells;refine⟨L.length,t,c2,rT hw,?_⟩;rcases hx with ⟨rfl,rfl⟩|⟨rfl,iL⟩
 .exact .inr ⟨rfl,rfl,Cp hw hT⟩
 .exact .inl ⟨rfl,iL⟩
end
section
open Go.RowKit
theorem eY {w:World} (h:lC w):∀W,Below w.heap.size w W->lC W:=fun W hW=>adC h W hW
theorem wA {α:Type} (f:α->List UInt8) (ls:List α) {k:Nat} {l:α} (h:ls[k]? =some l):(ls.take (k+1)).flatMap f=(ls.take k).flatMap f++f l:=by
 rw[acj,h,List.flatMap_append];simp
theorem Ba {α:Type} (f:α->List UInt8) (ls:List α) {k:Nat} {l:α} (h:ls[k]? =some l):∃R,ls.flatMap f=(ls.take k).flatMap f++f l++R:=by
 refine⟨(ls.drop (k+1)).flatMap f,?_⟩;rw[<-wA f ls h,<-List.flatMap_append,acM]
theorem Cq {w:World} {ls:List (List Int)} {ao:Option Addr} {ca:Nat} (ha:Ce.iy w ao ls) (hg:Ce.AR ls) (hl:∀l∈ls,l.length<=4611686018427387) (ht:lC w) (T:List UInt8) (hT:Ce.dI ⟨true,ls,[]⟩=T):
 Calls Tryz.prog 41 #[.iface 139 (.slice ao ls.length ca)] w fun e w'=>Tm T e/\Below w.heap.size w w':=by
 have Zn:∀(v:Value) (w:World),(Instr.typeAssert (.iface 139 v) 92 139 true).run Tryz.prog w= .ok (.tuple #[v,.bool true]) w:=fun _ _=>by kernel_rfl
 obtain⟨n,hn⟩:∃n,ls.length=n:=⟨_,rfl⟩;have hns:n<=1048576:=by have:=hg.2;omega
 have hok:Ce.dR (n:Int):=⟨by omega,by omega⟩;obtain⟨H,hH⟩:∃H,[112,32]++Ce.bJ [(n:Int)]=H:=⟨_,rfl⟩;have OW:T=H++ls.flatMap Ce.bJ:=by
  rw[<-hT,<-hH];unfold Ce.dI Ce.Er Ce.qT;simp[hn,Ce.bJ,Ce.jn]
 have OX:T≠[]:=by rw[OW,<-hH];simp
 have SQ:H.length<=300000000:=by
  rw[<-hH];have:=Ce.xO [(n:Int)] (fun x hx=>by rw[abe.1 hx];exact hok);simp at this ⊢;omega
 have hb0:Below w.heap.size w (w.alloc (.cells #[.pointer none,.slice none 0 0,.bool false] 146)):=(aaG _ _).alloc (aaF _) _;have EX:=ζ (wW (S:=[112,32]) (oU.new (B:=w.heap.size) w (aaF _)) (by simp) (by simp) hok (fun W hW=>eY ht W (hb0.trans hW)));rw[hH] at EX;have oW:=ζ (eY ht);have HA:=ζ ha;have HG:=ζ hg.1;have HL:=ζ hl;have HN:=ζ hn;have Wp:=ζ OW;have wQ:=ζ SQ;have aI:=ζ hb0;rw[hn];clear ha hg hl ht hn OW SQ hb0 hH hT;go_enter Tryz.func41,Tryz.ntmps41;go_wp2_with (go_at_call 77;refine EX.out.mono ?_;rintro e w1 ⟨rfl,hw1,hb1⟩;have JF:=ζ hw1;have aD:=ζ (aI.out.trans hb1);clear hw1 hb1);go_loopw [20] (fun iv wr=>∃k:Nat,k<=n/\iv= .int .i64 (k:Int)/\M3 wr w.heap.size w.heap.size T (H++(ls.take k).flatMap Ce.bJ)/\Below w.heap.size w wr) (fun iv _=>n-(intOf iv).toNat)
 case atStart=>exact⟨0,aaR _,rfl,⟨H,false,JF.out,wQ.out,.inl ⟨rfl,by simp⟩⟩,aD.out⟩
 case round=>
  obtain⟨k,hk,rfl,hw,hb⟩:=hrel;have HW:=ζ hw;have HB:=ζ hb;have hsz:=hb.size;by_cases hlt:k<n
  .have aP:(k:Int)<(n:Int):=by omega
   obtain⟨l,hlk⟩:∃l,ls[k]? =some l:=⟨_,aaE (by have:=HN.out;omega)⟩;obtain⟨b,o,xa,xc,rfl,c0,qG⟩:=(HA.out.later hb) k l hlk;have hlm:=HL.out l (aaJ hlk);have hxs:∃R,T=(H++(ls.take k).flatMap Ce.bJ)++Ce.bJ l++R:=by
    obtain⟨R,hR⟩:=Ba Ce.bJ ls hlk;exact⟨R,by rw[Wp.out,hR];simp⟩
   have HC:=ζ (hw.line hsz (c:=xc) qG (fun x hx=>((HG.out l (aaJ hlk)) x hx).1) hlm (oW.out _ hb) hxs);have fL:=ζ hlk;have k0:(0:Int)<=(k:Int):=by omega
   clear hw hb qG hlk hxs;go_wp2_with (go_at_call 78;refine HC.out.mono ?_;rintro e w2 ⟨rfl,hw2,hb2⟩;have FX:=ζ hw2;have aA:=ζ (HB.out.trans hb2);clear hw2 hb2);go_roundw
   case rel=>exact⟨k+1,by omega,by go_num,by rw[wA Ce.bJ ls fL.out,<-abb];exact FX.out,aA.out⟩
   case measure=>simp[intOf];omega
  .have aP:¬((k:Int)<(n:Int)):=by omega
   obtain rfl:k=n:=by omega
   have hte:ls.take k=ls:=by rw[<-HN.out];exact abQ
   rw[hte,<-Wp.out] at hw;obtain⟨K,t,c2,hlen,hx⟩:=hw.end OX;have HLEN:=ζ hlen;clear hw hb hlen;rcases hx with ⟨rfl,iL⟩|⟨rfl,rfl,Lz⟩
   .go_wp2
    go_ret2;exact⟨.inl ⟨iL,rfl⟩,HB.out⟩
   .have Wv:=ζ Lz
    clear Lz;by_cases iL:33554432<T.length
    .have uL:(33554432:Int)<(T.length:Int):=by omega
     go_wp2_with (go_at_call 79;refine HLEN.out.mono ?_;rintro e w' ⟨rfl,hw'⟩;obtain rfl:=hw'.symm;clear hw');go_ret2;exact⟨.inl ⟨iL,rfl⟩,HB.out⟩
    .have uL:¬((33554432:Int)<(T.length:Int)):=by omega
     go_wp2_with (first|(go_at_call 79;refine HLEN.out.mono ?_;rintro e w' ⟨rfl,hw'⟩;obtain rfl:=hw'.symm;clear hw')|(go_at_call 80;refine Wv.out.mono ?_;rintro e w4 ⟨rfl,hb4⟩;have cZ:=ζ (HB.out.trans hb4);clear hb4));go_ret2;exact⟨.inr ⟨by omega,rfl⟩,cZ.out⟩
end
section
open Go.Proofs.Tryz
open Go.RowKit
theorem Eh (p:Int×Int):Ce.gD p=Ce.bJ [p.1,p.2]:=by
 unfold Ce.gD Ce.bJ;simp[Ce.jn]
theorem Cr {w:World} {es:List (Int×Int)} {ao:Option Addr} {ca:Nat} (ha:ah w ao es) (hg:Ce.lZ es) (ht:lC w) (T:List UInt8) (hT:Ce.dI ⟨false,[],es⟩=T):
 Calls prog 41 #[.iface 140 (.slice ao es.length ca)] w fun e w'=>Tm T e/\Below w.heap.size w w':=by
 have Zm:∀(v:Value) (w:World),(Instr.typeAssert (.iface 140 v) 92 139 true).run prog w= .ok (.tuple #[.slice none 0 0,.bool false]) w:=fun _ _=>by kernel_rfl
 have Zl:∀(v:Value) (w:World),(Instr.typeAssert (.iface 140 v) 92 140 true).run prog w= .ok (.tuple #[v,.bool true]) w:=fun _ _=>by kernel_rfl
 obtain⟨n,hn⟩:∃n,es.length=n:=⟨_,rfl⟩;have hns:n<=4194304:=by have:=hg.2;omega
 have hok:Ce.dR (n:Int):=⟨by omega,by omega⟩;obtain⟨H,hH⟩:∃H,[110,32]++Ce.bJ [(n:Int)]=H:=⟨_,rfl⟩;have OW:T=H++es.flatMap Ce.gD:=by
  rw[<-hT,<-hH];unfold Ce.dI Ce.Er Ce.qT;simp[hn,Ce.bJ,Ce.jn]
 have OX:T≠[]:=by rw[OW,<-hH];simp
 have SQ:H.length<=300000000:=by
  rw[<-hH];have:=Ce.xO [(n:Int)] (fun x hx=>by rw[abe.1 hx];exact hok);simp at this ⊢;omega
 have hb0:Below w.heap.size w (w.alloc (.cells #[.pointer none,.slice none 0 0,.bool false] 146)):=(aaG _ _).alloc (aaF _) _;have EX:=ζ (wW (S:=[110,32]) (oU.new (B:=w.heap.size) w (aaF _)) (by simp) (by simp) hok (fun W hW=>eY ht W (hb0.trans hW)));rw[hH] at EX;have oW:=ζ (eY ht);have HA:=ζ ha;have HG:=ζ hg.1;have HN:=ζ hn;have Wp:=ζ OW;have wQ:=ζ SQ;have aI:=ζ hb0;rw[hn];clear ha hg ht hn OW SQ hb0 hH hT;go_enter func41,ntmps41;go_wp2_with (go_at_call 77;refine EX.out.mono ?_;rintro e w1 ⟨rfl,hw1,hb1⟩;have JF:=ζ hw1;have aD:=ζ (aI.out.trans hb1);clear hw1 hb1);go_loopw [35] (fun iv wr=>∃k:Nat,k<=n/\iv= .int .i64 (k:Int)/\M3 wr w.heap.size w.heap.size T (H++(es.take k).flatMap Ce.gD)/\Below w.heap.size w wr) (fun iv _=>n-(intOf iv).toNat)
 case atStart=>exact⟨0,aaR _,rfl,⟨H,false,JF.out,wQ.out,.inl ⟨rfl,by simp⟩⟩,aD.out⟩
 case round=>
  obtain⟨k,hk,rfl,hw,hb⟩:=hrel;have HW:=ζ hw;have HB:=ζ hb;have hsz:=hb.size;by_cases hlt:k<n
  .have aP:(k:Int)<(n:Int):=by omega
   obtain⟨⟨u,v⟩,hlk⟩:∃p,es[k]? =some p:=⟨_,aaE (by have:=HN.out;omega)⟩;obtain⟨b,o,rfl,g0,g1⟩:=(HA.out.later hb) k (u,v) hlk;dsimp only at g0 g1;have hmm:=aaJ hlk;have hxs:∃R,T=(H++(es.take k).flatMap Ce.gD)++Ce.bJ [u,v]++R:=by
    obtain⟨R,hR⟩:=Ba Ce.gD es hlk;exact⟨R,by rw[Wp.out,hR,Eh];simp⟩
   have hz1:Below wr.heap.size wr (wr.alloc (.cells #[.int .i64 u,.int .i64 v] 66)):=(aaG _ _).alloc (aaF _) _;have hz2:Below wr.heap.size wr ((wr.alloc (.cells #[.int .i64 u,.int .i64 v] 66)).alloc (.cells #[.int .i64 u,.int .i64 v] 3)):=hz1.alloc (by simp) _;have hI:aV ((wr.alloc (.cells #[.int .i64 u,.int .i64 v] 66)).alloc (.cells #[.int .i64 u,.int .i64 v] 3)) (some ⟨(wr.alloc (.cells #[.int .i64 u,.int .i64 v] 66)).heap.size,0,none⟩) [u,v]:=aq.at (l:=[u,v]) (heap_alloc_new _ _);rw[aa7] at hI;have X5:M3 ((wr.alloc (.cells #[.int .i64 u,.int .i64 v] 66)).alloc (.cells #[.int .i64 u,.int .i64 v] 3)) w.heap.size w.heap.size T (H++(es.take k).flatMap Ce.gD):=by
    obtain⟨L,t,h1,h2⟩:=hw;exact⟨L,t,h1.later hz2,h2⟩
   have HZ:=ζ (hb.trans (hz2.mono hsz));have HC:=ζ (X5.line (l:=[u,v]) (c:=2) (by simp;omega) hI (fun x hx=>by
    have:=HG.out.1 (u,v) hmm;simp at hx;rcases hx with rfl|rfl
    .exact this.1
    .exact this.2.1) (by simp) (oW.out _ HZ.out) hxs)
   have fL:=ζ hlk;have k0:(0:Int)<=(k:Int):=by omega
   clear hw hb hlk hxs hz1 hz2 hI X5 hmm;go_wp2_with (go_at_call 78;refine HC.out.mono ?_;rintro e w2 ⟨rfl,hw2,hb2⟩;have FX:=ζ hw2;have aA:=ζ (HZ.out.trans hb2);clear hw2 hb2);go_roundw
   case rel=>exact⟨k+1,by omega,by go_num,by rw[wA Ce.gD es fL.out,<-abb,Eh];exact FX.out,aA.out⟩
   case measure=>simp[intOf];omega
  .have aP:¬((k:Int)<(n:Int)):=by omega
   obtain rfl:k=n:=by omega
   have hte:es.take k=es:=by rw[<-HN.out];exact abQ
   rw[hte,<-Wp.out] at hw;obtain⟨K,t,c2,hlen,hx⟩:=hw.end OX;have HLEN:=ζ hlen;clear hw hb hlen;rcases hx with ⟨rfl,iL⟩|⟨rfl,rfl,Lz⟩
   .go_wp2
    go_ret2;exact⟨.inl ⟨iL,rfl⟩,HB.out⟩
   .have Wv:=ζ Lz
    clear Lz;by_cases iL:33554432<T.length
    .have uL:(33554432:Int)<(T.length:Int):=by omega
     go_wp2_with (go_at_call 79;refine HLEN.out.mono ?_;rintro e w' ⟨rfl,hw'⟩;obtain rfl:=hw'.symm;clear hw');go_ret2;exact⟨.inl ⟨iL,rfl⟩,HB.out⟩
    .have uL:¬((33554432:Int)<(T.length:Int)):=by omega
     go_wp2_with (first|(go_at_call 79;refine HLEN.out.mono ?_;rintro e w' ⟨rfl,hw'⟩;obtain rfl:=hw'.symm;clear hw')|(go_at_call 80;refine Wv.out.mono ?_;rintro e w4 ⟨rfl,hb4⟩;have cZ:=ζ (HB.out.trans hb4);clear hb4));go_ret2;exact⟨.inr ⟨by omega,rfl⟩,cZ.out⟩
end
section
open Go.Proofs.Tryz
open Go.RowKit
theorem kg (w:World) (ao eo:Option Addr) (na ca ne ce:Nat):
 Calls prog 40 #[.agg #[.bool true,.slice ao na ca,.slice eo ne ce]] w fun e w'=>e= .returned (.tuple #[.iface 139 (.slice ao na ca),.bool ((ne:Int)==0)])/\Below w.heap.size w w':=by
 go_enter func40,ntmps40;go_wp2_with fail;go_quiet (fail);go_wp2;go_ret2;exact⟨rfl,below_drewN ((aaG _ _).alloc (aaF _) _) _⟩
theorem kj (w:World) (ao eo:Option Addr) (na ca ne ce:Nat):
 Calls prog 40 #[.agg #[.bool false,.slice ao na ca,.slice eo ne ce]] w fun e w'=>e= .returned (.tuple #[.iface 140 (.slice eo ne ce),.bool ((na:Int)==0)])/\Below w.heap.size w w':=by
 go_enter func40,ntmps40;go_wp2_with fail;go_quiet (fail);go_wp2;go_ret2;exact⟨rfl,below_drewN ((aaG _ _).alloc (aaF _) _) _⟩
theorem CU {w:World} {ls:List (List Int)} {ao eo:Option Addr} {ca ce:Nat} (ha:Ce.iy w ao ls) (hs:ls.length<=4611686018427387904) (hl:∀l∈ls,l.length<=4611686018427387) (ht:lC w):
 Calls prog 19 #[.agg #[.bool true,.slice ao ls.length ca,.slice eo 0 ce]] w fun e w'=>uB ⟨true,ls,[]⟩ e/\Below w.heap.size w w':=by
 have hz:Below w.heap.size w (w.alloc (.cells #[.bool true,.slice ao ls.length ca,.slice eo 0 ce] 27)):=(aaG _ _).alloc (aaF _) _;have hgd:Ce.good ⟨true,ls,[]⟩↔Ce.AR ls:=by
  unfold Ce.good;rw[if_pos rfl];exact⟨fun h=>⟨h.2.1,h.2.2⟩,fun h=>⟨rfl,h.1,h.2⟩⟩
 have HZ:=ζ hz;have HA:=ζ ha;have uR:=ζ hgd;clear hz ha hgd;by_cases hok:Ce.AR ls
 .have iB:=ζ hok
  clear hok;go_enter func19,ntmps19
  go_wp2_with (first
   |(go_at_call 40;refine(kg _ _ _ _ _ _ _).mono ?_;rintro e w1 ⟨rfl,hb1⟩;have HB:=ζ (HZ.out.trans (hb1.mono HZ.out.size));clear hb1)
   |(go_at_call 333;refine(vw (c:=ca) (HA.out.later HB.out) hs (fun l h=>aa1 (hl l h) (by omega))).mono ?_;rintro e w2 ⟨⟨t,rfl,Dw⟩,hb2⟩;obtain rfl:=Dw.2 iB.out;have aA:=ζ (HB.out.trans (hb2.mono HB.out.size));clear hb2 Dw)
   |(go_at_call 41;refine(Cq (ca:=ca) (HA.out.later aA.out) iB.out hl (eY ht _ aA.out) _ rfl).mono ?_;rintro e w3 ⟨hp,hb3⟩;rcases hp with ⟨hp1,rfl⟩|⟨hp1,rfl⟩))
  .go_ret2
   exact⟨⟨fun hn=>absurd (uR.out.2 iB.out) hn,fun _=> .inl ⟨hp1,rfl⟩⟩,aA.out.trans (hb3.mono aA.out.size)⟩
  .go_ret2
   exact⟨⟨fun hn=>absurd (uR.out.2 iB.out) hn,fun _=> .inr ⟨hp1,rfl⟩⟩,aA.out.trans (hb3.mono aA.out.size)⟩
 .have iB:=ζ hok
  clear hok;go_enter func19,ntmps19
  go_wp2_with (first
   |(go_at_call 40;refine(kg _ _ _ _ _ _ _).mono ?_;rintro e w1 ⟨rfl,hb1⟩;have HB:=ζ (HZ.out.trans (hb1.mono HZ.out.size));clear hb1)
   |(go_at_call 333;refine(vw (c:=ca) (HA.out.later HB.out) hs (fun l h=>aa1 (hl l h) (by omega))).mono ?_;rintro e w2 ⟨⟨t,rfl,Dw⟩,hb2⟩;obtain rfl:t=false:=by { cases t with|false=>rfl|true=>exact absurd (Dw.1 rfl) iB.out };have aA:=ζ (HB.out.trans (hb2.mono HB.out.size));clear hb2 Dw))
  go_ret2;exact⟨⟨fun _=>rfl,fun h=>absurd (uR.out.1 h) iB.out⟩,aA.out⟩
theorem xw {w:World} {na ne:Nat} {ao eo:Option Addr} {ca ce:Nat} (hn:ne≠0):
 Calls prog 19 #[.agg #[.bool true,.slice ao na ca,.slice eo ne ce]] w fun e w'=>e= .returned (.tuple #[.string ⟨#[]⟩,.int .i64 170])/\Below w.heap.size w w':=by
 have hz:Below w.heap.size w (w.alloc (.cells #[.bool true,.slice ao na ca,.slice eo ne ce] 27)):=(aaG _ _).alloc (aaF _) _;have hni:((ne:Int)==0)=false:=by simp[hn]
 go_enter func19,ntmps19;go_wp2_with (go_at_call 40;refine(kg _ _ _ _ _ _ _).mono ?_;rw[hni];rintro e w1 ⟨rfl,hb1⟩);go_ret2;exact⟨rfl,hz.trans (hb1.mono hz.size)⟩
theorem CV {w:World} {es:List (Int×Int)} {ao eo:Option Addr} {ca ce:Nat} (ha:ah w eo es) (hs:es.length<=4611686018427387904) (ht:lC w):
 Calls prog 19 #[.agg #[.bool false,.slice ao 0 ca,.slice eo es.length ce]] w fun e w'=>uB ⟨false,[],es⟩ e/\Below w.heap.size w w':=by
 have hz:Below w.heap.size w (w.alloc (.cells #[.bool false,.slice ao 0 ca,.slice eo es.length ce] 27)):=(aaG _ _).alloc (aaF _) _;have hgd:Ce.good ⟨false,[],es⟩↔Ce.lZ es:=by
  unfold Ce.good;rw[if_neg (by simp)];exact⟨fun h=>⟨h.2.1,h.2.2⟩,fun h=>⟨rfl,h.1,h.2⟩⟩
 have HZ:=ζ hz;have HA:=ζ ha;have uR:=ζ hgd;clear hz ha hgd;by_cases hok:Ce.lZ es
 .have iB:=ζ hok
  clear hok;go_enter func19,ntmps19
  go_wp2_with (first
   |(go_at_call 40;refine(kj _ _ _ _ _ _ _).mono ?_;rintro e w1 ⟨rfl,hb1⟩;have HB:=ζ (HZ.out.trans (hb1.mono HZ.out.size));clear hb1)
   |(go_at_call 335;refine(vA (c:=ce) (HA.out.later HB.out) hs).mono ?_;rintro e w2 ⟨⟨t,rfl,Dw⟩,hb2⟩;obtain rfl:=Dw.2 iB.out;have aA:=ζ (HB.out.trans (hb2.mono HB.out.size));clear hb2 Dw)
   |(go_at_call 41;refine(Cr (ca:=ce) (HA.out.later aA.out) iB.out (eY ht _ aA.out) _ rfl).mono ?_;rintro e w3 ⟨hp,hb3⟩;rcases hp with ⟨hp1,rfl⟩|⟨hp1,rfl⟩))
  .go_ret2
   exact⟨⟨fun hn=>absurd (uR.out.2 iB.out) hn,fun _=> .inl ⟨hp1,rfl⟩⟩,aA.out.trans (hb3.mono aA.out.size)⟩
  .go_ret2
   exact⟨⟨fun hn=>absurd (uR.out.2 iB.out) hn,fun _=> .inr ⟨hp1,rfl⟩⟩,aA.out.trans (hb3.mono aA.out.size)⟩
 .have iB:=ζ hok
  clear hok;go_enter func19,ntmps19
  go_wp2_with (first
   |(go_at_call 40;refine(kj _ _ _ _ _ _ _).mono ?_;rintro e w1 ⟨rfl,hb1⟩;have HB:=ζ (HZ.out.trans (hb1.mono HZ.out.size));clear hb1)
   |(go_at_call 335;refine(vA (c:=ce) (HA.out.later HB.out) hs).mono ?_;rintro e w2 ⟨⟨t,rfl,Dw⟩,hb2⟩;obtain rfl:t=false:=by { cases t with|false=>rfl|true=>exact absurd (Dw.1 rfl) iB.out };have aA:=ζ (HB.out.trans (hb2.mono HB.out.size));clear hb2 Dw))
  go_ret2;exact⟨⟨fun _=>rfl,fun h=>absurd (uR.out.1 h) iB.out⟩,aA.out⟩
theorem xx {w:World} {na ne:Nat} {ao eo:Option Addr} {ca ce:Nat} (hn:na≠0):
 Calls prog 19 #[.agg #[.bool false,.slice ao na ca,.slice eo ne ce]] w fun e w'=>e= .returned (.tuple #[.string ⟨#[]⟩,.int .i64 170])/\Below w.heap.size w w':=by
 have hz:Below w.heap.size w (w.alloc (.cells #[.bool false,.slice ao na ca,.slice eo ne ce] 27)):=(aaG _ _).alloc (aaF _) _;have hni:((na:Int)==0)=false:=by simp[hn]
 go_enter func19,ntmps19;go_wp2_with (go_at_call 40;refine(kj _ _ _ _ _ _ _).mono ?_;rw[hni];rintro e w1 ⟨rfl,hb1⟩);go_ret2;exact⟨rfl,hz.trans (hb1.mono hz.size)⟩
structure Ce.wT (c:Ce.Cert):Prop where
 ar:c.ar.length<=4611686018427387904
 es:c.es.length<=4611686018427387904
 row:∀l∈c.ar,l.length<=4611686018427387
theorem IG {w:World} {v:Value} {c:Ce.Cert} {ao eo:Option Addr} {ca ce:Nat} (h:Ce.jZ w v c ao eo ca ce) (hf:Ce.wT c) (ht:lC w):
 Calls prog 19 #[v] w fun e w'=>uB c e/\Below w.heap.size w w':=by
 rw[h.val];have ha:=h.ar;have he:=h.es;have h1:=hf.ar;have h2:=hf.es;have h3:=hf.row;clear h hf;obtain⟨pl,ar,es⟩:=c;dsimp only at ha he h1 h2 h3 ⊢;cases pl with
 |true=>
  cases es with
  |nil=>exact CU ha h1 h3 ht
  |cons p r=>
   refine(xw (by simp)).mono fun e w' h=>⟨⟨fun _=>h.1,fun hg=> ?_⟩,h.2⟩
   unfold Ce.good at hg;rw[if_pos rfl] at hg;exact absurd hg.1 (by simp)
 |false=>
  cases ar with
  |nil=>exact CV he h2 ht
  |cons p r=>
   refine(xx (by simp)).mono fun e w' h=>⟨⟨fun _=>h.1,fun hg=> ?_⟩,h.2⟩
   unfold Ce.good at hg;rw[if_neg (by simp)] at hg;exact absurd hg.1 (by simp)
end
section
open Go.Proofs.Tryz
open Go.RowKit
theorem Tryz.infoTree:(prog.info? 386).map (fun i=>(i.zero,i.size,i.bytes))=some (some (.agg #[.int .i64 0,.int .i64 0]),2,16):=by kernel_rfl
theorem Oj {W:World} {k n:Nat} (h:W.heap.size=k):aF (W.alloc (.cells (madeCells #[.int .i64 0] n) 3)) k (Co.ints n (fun _=>0)):=by
 subst h;refine⟨[],?_⟩;rw[heap_alloc_new,abP,Co.vY,<-dx]
theorem KY {W:World} {k n:Nat} (h:W.heap.size=k):ct (W.alloc (.cells (madeCells #[.int .i64 0,.int .i64 0] (n*2)) 386)) k n (fun _=>0) (fun _=>0):=by
 subst h;have hc:∀j,j<n*2->(madeCells #[Value.int .i64 0,Value.int .i64 0] (n*2)).toList[j]? =some (.int .i64 0):=fun j hj=>by
  have e:(madeCells #[Value.int .i64 0,Value.int .i64 0] (n*2)).toList=(List.range (n*2)).map (fun x=>[Value.int .i64 0,Value.int .i64 0][x%2]?.getD default):=by simp[madeCells]
  rw[e,abj,acT hj];rcases abJ j with h|h<;>simp[h]
 refine⟨(madeCells #[Value.int .i64 0,Value.int .i64 0] (n*2)).toList,by rw[heap_alloc_new],by rw[adX,size_madeCells],fun i hi=>⟨hc _ (by omega),hc _ (by omega)⟩⟩
theorem ct.alloc {w:World} {g n:Nat} {S L:Nat->Nat} (h:ct w g n S L) (o:Obj):ct (w.alloc o) g n S L:=h.same (aa0 w o g h.lt)
theorem Rp {W:World} {p gp gt n:Nat} (h:W.heap.size=p):(W.alloc (.cells #[.slice (some ⟨gp,0,none⟩) n n,.slice (some ⟨gt,0,none⟩) n n,.int .i64 (n:Int)] 384)).heap[p]? =some (.cells #[.slice (some ⟨gp,0,none⟩) n n,.slice (some ⟨gt,0,none⟩) n n,.int .i64 (n:Int)] 384 (0,0)):=by
 subst h;exact heap_alloc_new W _
def EJ (n k p:Nat) (w wr:World):Prop:=
 ∃gp gt P S L,bN wr p gp gt n n P S L/\(∀i,i<k->P i=i/\S i=1/\L i=i)/\w.heap.size<=p/\w.heap.size<=gp/\w.heap.size<=gt/\Below w.heap.size w wr
def Tp (n:Int) (w:World) (e:Ending) (w':World):Prop:=
 ((∃k p gp gt:Nat,n=(k:Int)/\k<=1048576/\e= .returned (.tuple #[.pointer (some ⟨p,0,none⟩),.int .i64 0])/\gG w' p gp gt k (fun x=>x)/\w.heap.size<=p/\w.heap.size<=gp/\w.heap.size<=gt)\/((n<0\/1048576<n)/\e= .returned (.tuple #[.pointer none,.int .i64 2])))/\Below w.heap.size w w'
theorem Uj (n:Int) (w:World):Calls prog 287 #[.int .i64 n] w (Tp n w):=by
 obtain⟨i0,hi,hz0,hz1,hz2⟩:=info_parts Tryz.cL;obtain⟨i1,hi1,hy0,hy1,hy2⟩:=info_parts Tryz.infoTree;by_cases h1:n<0
 .go_enter func287,ntmps287
  go_wp2;go_ret2;exact⟨.inr ⟨.inl h1,rfl⟩,aaG _ _⟩
 by_cases h2:1048576<n
 .go_enter func287,ntmps287
  go_wp2;go_ret2;exact⟨.inr ⟨.inr h2,rfl⟩,aaG _ _⟩
 obtain⟨k,rfl⟩:∃k:Nat,n=(k:Int):=⟨n.toNat,by omega⟩;have hkn:k<=1048576:=by omega
 have hm1:∀W,(Instr.makeSlice 381 (.int .i64 (k:Int)) (.int .i64 (k:Int))).run prog W= .ok (.slice (some ⟨W.heap.size,0,none⟩) k k) (W.alloc (.cells (madeCells #[.int .i64 0] k) 3)):=fun W=>by
  have:=run_make (P:=prog) W 381 3 i0 (.int .i64 0) Tryz.underlying381 hi hz0 .i64 .i64 (k:Int) (k:Int) (by omega) (acq _) (by rw[hz2];omega) (by omega);rw[this,hz1];simp[Value.cells]
 have hm2:∀W,(Instr.makeSlice 382 (.int .i64 (k:Int)) (.int .i64 (k:Int))).run prog W= .ok (.slice (some ⟨W.heap.size,0,none⟩) k k) (W.alloc (.cells (madeCells #[.int .i64 0,.int .i64 0] (k*2)) 386)):=fun W=>by
  have:=run_make (P:=prog) W 382 386 i1 (.agg #[.int .i64 0,.int .i64 0]) Tryz.underlying382 hi1 hy0 .i64 .i64 (k:Int) (k:Int) (by omega) (acq _) (by rw[hy2];omega) (by omega);rw[this,hy1];simp[Value.cells]
 go_enter func287,ntmps287
 go_upto_region 3 with fail
 go_cut [4] from 12 to 18 (fun x wr=>∃p:Nat,x= .pointer (some ⟨p,0,none⟩)/\EJ k 0 p w wr)
 case first=>
  go_wp2_with fail
  go_region
  all_goals go_wp2_with fail
  all_goals go_meet
  all_goals
   refine⟨_,rfl,_,_,fun _=>0,fun _=>0,fun _=>0,⟨Rp (by simp),?_,?_,?_,?_,?_⟩,fun i hi=>by omega,?_,?_,?_,?_⟩
   .repeat (first|(refine Oj ?_;simp;done)|refine aF.alloc ?_ _)
   .repeat (first|(refine KY ?_;simp;done)|refine ct.alloc ?_ _)
   .omega
   .omega
   .omega
   .omega
   .omega
   .omega
   .repeat (first|exact aaG _ _|refine adD ?_|refine adv ?_ (by first|omega|(simp;done)|(simp;omega)) _)
 case rest=>
  obtain⟨p,rfl,hmid⟩:=hcut;have Q3:=ζ hmid;clear hmid hm1 hm2;go_wp2;go_loopw [20] (fun c wr=>∃j:Nat,j<=k/\c= .int .i64 (j:Int)/\EJ k j p w wr) (fun c _=>k-(intOf c).toNat)
  case atStart=>exact⟨0,aaR _,rfl,Q3.out⟩
  case round=>
   obtain⟨j,hj,rfl,gp,gt,P,S,L,hH,hall,b1,b2,b3,hb⟩:=hrel;by_cases hlt:j<k
   .have aP:(j:Int)<(k:Int):=by omega
    have hj0:(0:Int)<=(j:Int):=by omega
    obtain⟨W,hW⟩:∃W,W=wr.setCell ⟨gp,j,none⟩ (.int .i64 (j:Int)):=⟨_,rfl⟩;have q1:=hH.par.set (i:=j) (by rw[Co.bw];exact hlt) (j:Int);rw[Co.ints_set j hlt,<-hW] at q1;have q2:W.heap[p]? =wr.heap[p]? :=by rw[hW];exact heap_setCell_other wr ⟨gp,j,none⟩ p _ hH.d1
    have q3:W.heap[gt]? =wr.heap[gt]? :=by rw[hW];exact heap_setCell_other wr ⟨gp,j,none⟩ gt _ (acn hH.d3)
    have T1:=hH.vO.same q3;obtain⟨T2,t1,t2⟩:=T1.put hlt 1 j;have c0:=hH.c0;have c1:W.cell? ⟨p,1,none⟩=some (.slice (some ⟨gt,0,none⟩) k k):=by simp[World.cell?,q2,hH.blk]
    have p0:=hH.par.cell (Co.ints_at (f:=P) hlt);have pf:=hH.par.free;have tc:=(T1.cell hlt).1;have tf:=T1.free;obtain⟨v1,v2⟩:=hH.vO.cell hlt;have vf:=hH.vO.free;rw[show((1:Nat):Int)=1 from rfl] at t1 t2;have j4:Hid (EJ k (j+1) p w ((W.setCell ⟨gt,j*2,none⟩ (.int .i64 1)).setCell ⟨gt,j*2+1,none⟩ (.int .i64 (j:Int)))):=by
     refine⟨gp,gt,_,_,_,⟨?_,(q1.other (i:=j*2) hH.d3 _).other (i:=j*2+1) hH.d3 _,T2,hH.d1,hH.d2,hH.d3⟩,fun i hi=> ?_,b1,b2,b3,?_⟩
     .rw[heap_setCell_other _ ⟨gt,j*2+1,none⟩ p _ hH.d2,heap_setCell_other _ ⟨gt,j*2,none⟩ p _ hH.d2,q2]
      exact hH.blk
     .by_cases e:i=j
      .subst e
       rw[Co.upd_same,Co.upd_same,Co.upd_same];exact⟨rfl,rfl,rfl⟩
      .rw[Co.aX _ e,Co.aX _ e,Co.aX _ e]
       exact hall i (by omega)
     .rw[hW]
      exact((hb.setCell (p:=⟨gp,j,none⟩) b2 _).setCell (p:=⟨gt,j*2,none⟩) b3 _).setCell (p:=⟨gt,j*2+1,none⟩) b3 _
    clear hH hall hb q1 q2 q3 T1 T2;subst hW;go_wp2;go_roundw
    case rel=>exact⟨j+1,by omega,by go_num,j4.out⟩
    case measure=>simp[intOf];omega
   .have hd:¬((j:Int)<(k:Int)):=by omega
    obtain rfl:j=k:=by omega
    have j4:Hid (gG wr p gp gt j (fun x=>x)):=by
     refine⟨hkn,_,_,_,_,_,?_,Co.O7 j⟩;rw[Co.QS];refine⟨hH.blk,?_,hH.vO.congr (fun i hi=>(hall i hi).2.1) (fun i hi=>(hall i hi).2.2),hH.d1,hH.d2,hH.d3⟩;rw[<-Co.oq (fun i hi=>(hall i hi).1)];exact hH.par
    have HB:=ζ hb;clear hH hall hb;go_wp2;go_ret2;exact⟨.inl ⟨j,p,gp,gt,rfl,hkn,rfl,j4.out,b1,b2,b3⟩,HB.out⟩
end
section
open Go.Proofs.Tryz
open Go.RowKit
namespace Co
def fix (m:Nat->Nat) (i:Nat):Bool:=decide (m i=i)
def num (m:Nat->Nat) (a:Nat):Nat:=aC (fix m) (m a)
theorem ME (n:Nat) (m:Nat->Nat):aC (fix m) n=cnt n m:=rfl
theorem GI {m:Nat->Nat} {a:Nat} (h:m a=a):num m a=aC (fix m) a:=by unfold num;rw[h]
theorem C7 {n:Nat} {m:Nat->Nat} (hn:Norm n m) {a:Nat} (ha:a<n):num m (m a)=num m a:=by unfold num;rw[hn.idem a ha]
theorem vH {m:Nat->Nat} {a:Nat} (h:m a=a):aC (fix m) (a+1)=aC (fix m) a+1:=by
 conv=>lhs;unfold aC
 rw[if_pos (by simpa[fix] using h)]
theorem yq {m:Nat->Nat} {a:Nat} (h:m a≠a):aC (fix m) (a+1)=aC (fix m) a:=by
 conv=>lhs;unfold aC
 rw[if_neg (by simpa[fix] using h)];rfl
theorem Oq {n:Nat} {m:Nat->Nat} {a:Nat} (h:a<n):xQ n m (a:Int)=(m a:Int):=by
 unfold xQ;rw[if_pos ⟨by omega,by omega⟩,abu]
end Co
def V9 (n:Nat) (m:Nat->Nat) (w:World) (e:Ending) (w':World):Prop:=
 ∃v,e= .returned v/\ak w' w.heap.size v (Co.ints n (Co.num m))/\Below w.heap.size w w'
theorem Fl (v:Option Addr) (n:Nat) (m:Nat->Nat) (w:World) (h:je w v n m):Calls prog 289 #[.pointer v] w (V9 n m w):=by
 obtain⟨i0,hi,hz0,hz1,hz2⟩:=info_parts Tryz.cL;have hn:=h.bound;have Ae:=ζ h.norm;have hle:∀W a,a<n->Below w.heap.size w W->Calls prog 308 #[.pointer v,.int .i64 (a:Int)] W fun e w'=>e= .returned (.int .i64 (m a:Int))/\∃k,w'=W.drewN k:=fun W a ha hb=>by
  have:=Oo v n m a W (h.later hb);rw[Co.Oq ha] at this;exact this
 have Af:=ζ hle;clear hle;rcases h with ⟨rfl,rfl⟩|⟨p,gp,gt,rfl,-,P,S,L,r,d,h,-⟩
 .go_enter func289,ntmps289
  go_wp2;go_ret;exact⟨_,rfl,ak.nil _ _,aaG _ _⟩
 .have c0:=h.c0
  clear h;go_enter func289,ntmps289;go_wp2_with (at_make;refine wpList_make_full _ rfl _ _ 55 rfl w.heap.size 3 i0 (.int .i64 0) 1 Tryz.underlying55 hi hz0 hz1 _ _ _ _ n rfl rfl rfl rfl (by rw[hz2];omega) (by unfold maxLen;omega) (aaF _) ?_;refine aaI ?_);refine ζ ?_;intro w2 hrow hg2;rw[dx] at hrow;have hik:=eR hrow;rw[<-Co.vY] at hik;have hb2:Below w.heap.size w w2:=(aaG _ _).grown hg2 (aaF _) (fun j hj=>by cases hj);have tL:=ζ hik;have aA:=ζ hb2;clear hrow hg2 hik hb2;go_wp2;go_loopw [4,17] (fun s c wr=>∃(k:Nat) (F:Nat->Nat),k<=n/\c= .int .i64 (k:Int)/\s= .int .i64 (Co.aC (Co.fix m) k:Int)/\(∀i,i<k->F i=Co.num m i)/\aq wr w.heap.size (Co.ints n F)/\Below w.heap.size w wr) (fun _ c _=>n-(intOf c).toNat)
  case atStart=>exact⟨0,_,aaR _,rfl,rfl,fun i hi=>by omega,tL.out,aA.out⟩
  case round=>
   obtain⟨k,F,hk,rfl,rfl,hF,lK,hb⟩:=hrel;have hcl:=Co.bM (Co.fix m) k;by_cases hkn:k<n
   .have hk0:(0:Int)<=(k:Int):=by omega
    have hk1:(k:Int)<(n:Int):=by omega
    have HL:=ζ (Af.out wr k hkn hb);have HF:=ζ hF;have HIS:=ζ lK;have HB:=ζ hb;clear hF lK hb;by_cases hf:m k=k
    .have hd:((m k:Int)==(k:Int))=true:=by simp[hf]
     have kH:=Co.vH hf;have dr:=Co.GI hf;have rO:=ζ kH;have F6:=ζ dr;obtain⟨z,hz⟩:∃z,Co.aC (Co.fix m) k=z:=⟨_,rfl⟩;rw[hz] at hcl rO F6 ⊢;clear kH dr hz hf;go_wp2_with (go_at_call 308;refine HL.out.mono ?_;rintro e w3 ⟨rfl,q,hw3⟩;have z8:=ζ hw3;clear hw3;refine aaI ?_);refine ζ ?_;have i3:aq w3 w.heap.size (Co.ints n F):=by rw[z8.out];exact HIS.out
     have b3:Below w.heap.size w w3:=by rw[z8.out];exact below_drewN HB.out q
     have cx:=i3.cell (Co.ints_at (f:=F) hkn);have cf:=i3.free;have n1:=i3.set k (z:Int);rw[Co.ints_set z hkn] at n1;have nM:=ζ n1;have aK:=ζ (b3.setCell (p:=⟨w.heap.size,k,none⟩) (aaF _) (.int .i64 (z:Int)));clear i3 b3 n1;go_wp2;go_roundw
     case rel=>
      refine⟨k+1,_,by omega,by go_num,by rw[rO.out];go_num,fun i hi=> ?_,nM.out,aK.out⟩;by_cases e:i=k
      .subst e;rw[Co.upd_same,F6.out]
      .rw[Co.aX _ e];exact HF.out i (by omega)
     case measure=>simp[intOf];omega
    .have hd:((m k:Int)==(k:Int))=false:=by simp;omega
     have hml:=Ae.out.le k hkn;have hmk:m k<k:=by omega
     have kH:=Co.yq hf;have rO:=ζ kH;have dr:=Co.C7 Ae.out hkn;have OT:=HF.out (m k) hmk;rw[dr] at OT;have Xb:=ζ OT;obtain⟨z,hz⟩:∃z,Co.aC (Co.fix m) k=z:=⟨_,rfl⟩;rw[hz] at hcl rO ⊢;obtain⟨y,hy⟩:∃y,m k=y:=⟨_,rfl⟩;rw[hy] at hmk HL hd Xb;have y0:(0:Int)<=(y:Int):=by omega
     have y1:(y:Int)<(n:Int):=by omega
     clear kH dr OT hz hf hy hml;go_wp2_with (go_at_call 308;refine HL.out.mono ?_;rintro e w3 ⟨rfl,q,hw3⟩;have z8:=ζ hw3;clear hw3;refine aaI ?_);refine ζ ?_;have i3:aq w3 w.heap.size (Co.ints n F):=by rw[z8.out];exact HIS.out
     have b3:Below w.heap.size w w3:=by rw[z8.out];exact below_drewN HB.out q
     have cx:=i3.cell (Co.ints_at (f:=F) hkn);have cy:=i3.cell (Co.ints_at (f:=F) (show y<n by omega));have cf:=i3.free;have n1:=i3.set k (F y:Int);rw[Co.ints_set (F y) hkn] at n1;have nM:=ζ n1;have aK:=ζ (b3.setCell (p:=⟨w.heap.size,k,none⟩) (aaF _) (.int .i64 (F y:Int)));clear i3 b3 n1;go_wp2;go_roundw
     case rel=>
      refine⟨k+1,_,by omega,by go_num,by rw[rO.out],fun i hi=> ?_,nM.out,aK.out⟩;by_cases e:i=k
      .subst e;rw[Co.upd_same,Xb.out]
      .rw[Co.aX _ e];exact HF.out i (by omega)
     case measure=>simp[intOf];omega
   .have hd:¬((k:Int)<(n:Int)):=by omega
    obtain rfl:k=n:=by omega
    rw[Co.oq hF] at lK;have HIS:=ζ lK;have HB:=ζ hb;clear hF lK hb;go_wp2;go_ret;exact⟨_,rfl,HIS.out.own (aaF _) (Co.bw _ _) (by omega),HB.out⟩
end
end Go.Proofs.YtdbjpbjocmcpkaaGreatDoor
