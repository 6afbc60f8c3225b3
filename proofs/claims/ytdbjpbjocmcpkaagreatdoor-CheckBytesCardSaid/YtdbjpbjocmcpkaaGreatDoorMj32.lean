import Derived.Test.YtdbjpbjocmcpkaaGreatDoorMj03
import Derived.Test.YtdbjpbjocmcpkaaGreatDoorMj04
import Derived.Deep.CutBlock
set_option maxHeartbeats 4000000
set_option maxRecDepth 100000
namespace Go.Proofs.YtdbjpbjocmcpkaaGreatDoor
section
open Go.Proofs.Tryz
open Go.RowKit
theorem aJ.afT {w:World} {tb tq n:Nat} {g:Nat->Int} (h:aJ w (some ⟨tb,tq,none⟩) n g) {q r:Nat} (hr:r<=n) (_hq:q<=r):aJ w (some ⟨tb,tq+q,none⟩) (r-q) (fun i=>Ce.bD n g (q+i)):=by
 intro i hi;obtain⟨hb,tb',tq',e,hc⟩:=h (q+i) (by omega);simp only[Option.some.injEq,adw] at e;obtain⟨rfl,rfl,_⟩:=e;have e:Ce.bD n g (q+i)=g (q+i):=if_pos (by omega);dsimp only;refine⟨by rw[e];exact hb,tb,tq+q,rfl,?_⟩;rw[e,acU];exact hc
theorem Kj {V:World} {ao:Option Addr} {m cap:Nat} {h:Nat->Int} (ht:aJ V ao m h) (ha:∀x,ao=some x->x.block<V.heap.size) (hm:m<=33554432) (hc:m<=cap) {a v x y z:Int} (hsc:Nu.scan h m= .ok [⟨1,a,x,v⟩,⟨3,y,z,0⟩]):
 Calls prog 67 #[.slice ao m cap] V fun e w'=>Below V.heap.size V w'/\∃T,e= .returned (.tuple #[.slice (some ⟨T,0,none⟩) 2 2,.int .i64 0,.int .i64 0])/\w'.cell? ⟨T,0,none⟩=some (.int .i64 1)/\w'.cell? ⟨T,3,none⟩=some (.int .i64 v):=by
 refine(tV ao m cap h V ht ha (by unfold maxLen;omega) hc).mono ?_;rintro e w' ⟨hb,h1|h1|h1⟩
 .omega
 .obtain⟨-,x,hx,-⟩:=h1
  rw[hsc] at hx;cases hx
 .obtain⟨-,ts,T,hts,rfl,-,hrow⟩:=h1
  rw[hsc] at hts;cases hts;obtain⟨arr,har,-,hcs⟩:=hrow;obtain⟨k0,-,-,k3⟩:=hcs 0 _ rfl;refine⟨hb,T,rfl,?_,?_⟩
  .rw[cell_of_row w' T 0 arr _ _ har]
   exact k0
  .rw[cell_of_row w' T 3 arr _ _ har]
   exact k3
theorem rX {V:World} {ao:Option Addr} {m cap:Nat} {h:Nat->Int} (ht:aJ V ao m h) (ha:∀x,ao=some x->x.block<V.heap.size) (hm:m<=33554432) (hc:m<=cap) (hsc:Nu.scan h m= .ok [⟨3,0,0,0⟩]):
 Calls prog 67 #[.slice ao m cap] V fun e w'=>Below V.heap.size V w'/\∃T,e= .returned (.tuple #[.slice (some ⟨T,0,none⟩) 1 1,.int .i64 0,.int .i64 0])/\w'.cell? ⟨T,0,none⟩=some (.int .i64 3):=by
 refine(tV ao m cap h V ht ha (by unfold maxLen;omega) hc).mono ?_;rintro e w' ⟨hb,h1|h1|h1⟩
 .omega
 .obtain⟨-,x,hx,-⟩:=h1
  rw[hsc] at hx;cases hx
 .obtain⟨-,ts,T,hts,rfl,-,hrow⟩:=h1
  rw[hsc] at hts;cases hts;obtain⟨arr,har,-,hcs⟩:=hrow;obtain⟨k0,-,-,-⟩:=hcs 0 _ rfl;refine⟨hb,T,rfl,?_⟩;rw[cell_of_row w' T 0 arr _ _ har];exact k0
theorem NM {V:World} {ao:Option Addr} {m cap:Nat} {h:Nat->Int} (ht:aJ V ao m h) (ha:∀x,ao=some x->x.block<V.heap.size) (hm:m<=33554432) (hc:m<=cap) {x:Nat×Int} (hsc:Nu.scan h m= .error x):
 Calls prog 67 #[.slice ao m cap] V fun e w'=>Below V.heap.size V w'/\e= .returned (.tuple #[.slice none 0 0,.int .i64 x.1,.int .i64 x.2]):=by
 refine(tV ao m cap h V ht ha (by unfold maxLen;omega) hc).mono ?_;rintro e w' ⟨hb,h1|h1|h1⟩
 .omega
 .obtain⟨-,x,hx,rfl⟩:=h1
  rw[hsc] at hx;cases hx;exact⟨hb,rfl⟩
 .obtain⟨-,ts,T,hts,-⟩:=h1
  rw[hsc] at hts;cases hts
theorem tU {B:Nat->Int}:Nu.scan B 0= .ok [⟨3,0,0,0⟩]:=by
 unfold Nu.scan;exact Nu.fN 0 (Nu.jB (Nu.bT.here (aaF _) (fun h=>absurd h (ad2 _)))) rfl
def af2 (R:Option (Int×Nat)) (least:Int) (b:Nat) (ao:Option Addr) (n cap p:Nat) (w:World) (e:Ending) (w':World):Prop:=
 w.grownBy w' (some b)/\((∃v k,R=some (v,k)/\least<=v/\e= .returned (.int .i64 v)/\cK w' b ao n cap k)\/((∀v k,R=some (v,k)->v<least)/\e=b8 p))
theorem Fm {b:Nat} {ao:Option Addr} {n cap p:Nat} {g:Nat->Int} {w:World} (hs:cK w b ao n cap p) (ht:aJ w ao n g) (ha:∀x,ao=some x->x.block<b/\x.spot=none) (hn:n<=33554432) (hcap:n<=cap) (hp:p<=n) (least:Int):
 Calls prog 226 #[.pointer (some ⟨b,0,none⟩),.int .i64 least] w (af2 (Ce.num (Ce.bD n g) n p) least b ao n cap p w):=by
 have c1:=hs.place;have HT:=ζ ht;have HS:=ζ hs;clear ht hs;go_enter func226,ntmps226;go_upto_block 0 with fail
 go_cut [] from 13 to 56 (fun wr=>∃q:Nat,Nu.bT Nu.isDigit (Ce.bD n g) n p q/\cK wr b ao n cap q/\w.grownBy wr (some b))
 case first=>
  go_wp2;go_loopw [] (fun wr=>∃q:Nat,p<=q/\q<=n/\(∀i,p<=i->i<q->Nu.isDigit (Ce.bD n g i)=true)/\cK wr b ao n cap q/\w.grownBy wr (some b)) (fun wr=>n-posOf wr b)
  case atStart=>exact⟨p,aaF _,hp,fun i h1 h2=>by omega,HS.out,acg _ _⟩
  case round=>
   obtain⟨q,BO,hq1,hall,jg,hgr⟩:=hrel;clear c1;have c0:=jg.text;have c1:=jg.place;have fz:=jg.free 1;have HP:Hid (posOf wr b=q):=jg.pos;have JH:=ζ jg;have jQ:=ζ hgr;have jc:=ζ hall;have htr:=HT.out.grown hgr (fun x hx=>by have:=(ha x hx).1;omega);have q0:(0:Int)<=(q:Int):=by omega
   clear jg hgr hall;by_cases hd:Nu.isDigit (Ce.bD n g q)=true
   .have hdd:48<=Ce.bD n g q/\Ce.bD n g q<=57:=by simpa[Nu.isDigit] using hd
    have hlt:q<n:=Ce.Pr hdd.1;have JR:Hid (∀i,p<=i->i<q+1->Nu.isDigit (Ce.bD n g i)=true):=fun i h1 h2=>by
     by_cases e:i=q
     .rw[e];exact hd
     .exact jc.out i h1 (by omega)
    rw[Ce.bD,if_pos hlt] at hdd;obtain⟨d1,d2⟩:=hdd;obtain⟨⟨b0,b1⟩,tb,tq,rfl,cq⟩:=htr q hlt;have aP:(q:Int)<(n:Int):=by omega
    clear htr hd;go_wp2_with fail;go_quiet (fail);go_wp2;go_roundw
    case rel=>exact⟨q+1,by omega,by omega,JR.out,(JH.out.drewN _).set (q+1),grownBy_setCell (bC jQ.out _) 1 _⟩
    case measure=>
     have e1:posOf ((wr.drewN nq).setCell ⟨b,1,none⟩ (.int .i64 ((q:Int)+1))) b=q+1:=((JH.out.drewN nq).set (q+1)).pos;have e2:posOf wr b=q:=HP.out;rw[e1,e2];omega
   .have YY:Hid (Nu.bT Nu.isDigit (Ce.bD n g) n p q):=⟨BO,hq1,jc.out,fun _=>by simpa using hd⟩
    have hex:(decide ((q:Int)<(n:Int))=false/\decide (q<n)=false)\/((q:Int)<(n:Int)/\(decide (48<=g q)=false\/(48<=g q/\decide (g q<=57)=false))/\∃tb tq,ao=some ⟨tb,tq,none⟩/\wr.cell? ⟨tb,tq+q,none⟩=some (.int .u8 (g q))):=by
     by_cases hlt:q<n
     .right
      have e:Ce.bD n g q=g q:=if_pos hlt;rw[e] at hd;obtain⟨-,tb',tq',e',cq⟩:=htr q hlt;have:¬(48<=g q/\g q<=57):=by simpa[Nu.isDigit] using hd
      refine⟨by omega,?_,tb',tq',e',cq⟩;rw[decide_eq_false_iff_not,decide_eq_false_iff_not];omega
     .left;rw[decide_eq_false_iff_not,decide_eq_false_iff_not];omega
    clear htr hd jc HP;rcases hex with ⟨h1,h1'⟩|⟨h1,h2|⟨h2,h3⟩,tb,tq,rfl,cq⟩
    all_goals
     go_wp2_with fail;go_quiet (fail);go_wp2
     go_meet
     exact⟨q,YY.out,JH.out.drewN _,bC jQ.out _⟩
 case rest=>
  obtain⟨q,hsk,jg,hgr⟩:=hcut;clear c1;have c0:=jg.text;have c1:=jg.place;have BO:=hsk.lo;have hq1:=hsk.hi;have htr:=HT.out.grown hgr (fun x hx=>by have:=(ha x hx).1;omega);have hde:Ce.jL (Ce.bD n g) n p=q:=hsk.eq.symm;have hrun:=Ce.Rs (B:=Ce.bD n g) hp;rw[hde] at hrun;have dO:=jg.lt;have JH:=ζ jg;have jQ:=ζ hgr;have HTR:=ζ htr;clear jg hgr;cases ao with
  |none=>
   obtain rfl:n=0:=by
    refine aa2 fun h=> ?_
    obtain⟨-,_,_,e,-⟩:=htr 0 (by omega);cases e
   obtain rfl:q=0:=by omega
   obtain rfl:p=0:=by omega
   clear htr;have hno:Ce.num (Ce.bD 0 g) 0 0=none:=by
    rcases hrun with ⟨v,k,-,-,hsc⟩|⟨h,-⟩
    .rw[tU] at hsc
     cases hsc
    .exact h
   have cB:Hid (∀v k,Ce.num (Ce.bD 0 g) 0 0=some (v,k)->v<least):=fun v k h=>by rw[hno] at h;cases h
   have nK:Hid (∀V c,Below wc.heap.size wc V->_):=fun V c hV=>rX (V:=V) (ao:=none) (cap:=c) (h:=g) (fun i hi=>absurd hi (Nat.not_lt_zero i)) (fun x hx=>by cases hx) (by omega) (aaR _) tU
   have EW:Hid (∀V,Below wc.heap.size wc V->(V.cell? ⟨b,0,none⟩=some (.slice none 0 cap)/\V.cell? ⟨b,1,none⟩=some (.int .i64 ((0:Nat):Int))/\Below wc.heap.size wc V)):=fun V hV=>⟨(JH.out.later hV).text,(JH.out.later hV).place,hV⟩
   have hbr:Below wc.heap.size wc wc.drew:=(aaG _ _).drew;clear hrun hno hsk hde;go_wp2_with fail
   go_region_held3 (fun V=>V.cell? ⟨b,0,none⟩=some (.slice none 0 cap)/\V.cell? ⟨b,1,none⟩=some (.int .i64 ((0:Nat):Int))/\Below wc.heap.size wc V)
    (exact EW.out _ (by first|assumption|exact hbr))
    ((go_at_call 67;with_reducible refine(nK.out _ _ (by first|assumption|exact hbr)).mono ?_;rintro e w6 ⟨ow,T,rfl,t0⟩;have hbz:Below wc.heap.size wc w6:=acd (by first|assumption|exact hbr) (ow.mono (acv (by first|assumption|exact hbr)))))
   have Ah:=ζ (aj jQ.out (ck (r:=some b) hbz));clear hbz ow nK EW;go_wp2;exact⟨rfl,Ah.out,.inr ⟨cB.out,rfl⟩⟩
  |some x=>
   obtain⟨tb,tq,sp⟩:=x;obtain⟨ha1,ha2⟩:=ha _ rfl;dsimp only at ha1 ha2;subst ha2;have HV:Hid (∀V,Below wc.heap.size wc V->aJ V (if cap=p then some (⟨tb,tq,none⟩:Addr) else some ⟨tb,tq+p,none⟩) (q-p) (fun i=>Ce.bD n g (p+i))/\∀x:Addr,(if cap=p then some (⟨tb,tq,none⟩:Addr) else some ⟨tb,tq+p,none⟩)=some x->x.block<V.heap.size):=fun V hV=>by
    have hsz:=hV.size;by_cases dW:cap=p
    .rw[if_pos dW]
     exact⟨fun i hi=>by omega,fun x hx=>by cases hx;dsimp only;omega⟩
    .rw[if_neg dW]
     exact⟨(HTR.out.later hV).afT hq1 BO,fun x hx=>by cases hx;dsimp only;omega⟩
   have i1:(p:Int)<=(q:Int):=by omega
   have i2:(q:Int)<=(cap:Int):=by omega
   have p0:(0:Int)<=(p:Int):=by omega
   have EW:Hid (∀V,Below wc.heap.size wc V->(V.cell? ⟨b,0,none⟩=some (.slice (some ⟨tb,tq,none⟩) n cap)/\V.cell? ⟨b,1,none⟩=some (.int .i64 (q:Int))/\Below wc.heap.size wc V)):=fun V hV=>⟨(JH.out.later hV).text,(JH.out.later hV).place,hV⟩
   have hbr:Below wc.heap.size wc wc.drew:=(aaG _ _).drew;clear htr hsk hde;rcases hrun with ⟨v,k,dr,rfl,hsc⟩|⟨dr,⟨x,hsc⟩|⟨rfl,hsc⟩⟩
   .have dW:¬cap=p:=fun e=>by
     rw[show k-p=0 by omega,tU] at hsc;cases hsc
    rw[if_neg dW] at HV;have nK:Hid (∀V,Below wc.heap.size wc V->_):=fun V hV=>Kj (cap:=cap-p) (HV.out V hV).1 (HV.out V hV).2 (by omega) (by omega) hsc
    have Q2:=ζ dr;clear hsc dr HV;go_wp2_with fail
    go_region_held3 (fun V=>V.cell? ⟨b,0,none⟩=some (.slice (some ⟨tb,tq,none⟩) n cap)/\V.cell? ⟨b,1,none⟩=some (.int .i64 (k:Int))/\Below wc.heap.size wc V)
     (exact EW.out _ (by first|assumption|exact hbr))
     ((go_at_call 67;with_reducible refine(nK.out _ (by first|assumption|exact hbr)).mono ?_;rintro e w6 ⟨ow,T,rfl,t0,t3⟩;have hbz:Below wc.heap.size wc w6:=acd (by first|assumption|exact hbr) (ow.mono (acv (by first|assumption|exact hbr)))))
    have nL:=ζ (JH.out.later hbz);have Ah:=ζ (aj jQ.out (ck (r:=some b) hbz));clear hbz ow nK EW;by_cases hv:v<least
    .go_wp2
     refine⟨rfl,Ah.out,.inr ⟨fun v' k' h=> ?_,rfl⟩⟩;rw[Q2.out] at h;cases h;exact hv
    .go_wp2
     go_ret;exact⟨Ah.out,.inl ⟨v,k,Q2.out,by omega,rfl,nL.out⟩⟩
   .have dW:¬cap=p:=fun e=>by
     rw[show q-p=0 by omega,tU] at hsc;cases hsc
    rw[if_neg dW] at HV;have nK:Hid (∀V,Below wc.heap.size wc V->_):=fun V hV=>NM (cap:=cap-p) (HV.out V hV).1 (HV.out V hV).2 (by omega) (by omega) hsc
    have cB:Hid (∀v k,Ce.num (Ce.bD n g) n p=some (v,k)->v<least):=fun v k h=>by rw[dr] at h;cases h
    have hx2:=(Nu.vT hsc).1;obtain⟨x1,x2⟩:=x;dsimp only at hx2;clear hsc dr HV;rcases hx2 with rfl|rfl
    all_goals
     go_wp2_with fail
     go_region_held3 (fun V=>V.cell? ⟨b,0,none⟩=some (.slice (some ⟨tb,tq,none⟩) n cap)/\V.cell? ⟨b,1,none⟩=some (.int .i64 (q:Int))/\Below wc.heap.size wc V)
      (exact EW.out _ (by first|assumption|exact hbr))
      ((go_at_call 67;with_reducible refine(nK.out _ (by first|assumption|exact hbr)).mono ?_;rintro e w6 ⟨ow,rfl⟩;have hbz:Below wc.heap.size wc w6:=acd (by first|assumption|exact hbr) (ow.mono (acv (by first|assumption|exact hbr)))))
     have Ah:=ζ (aj jQ.out (ck (r:=some b) hbz));clear hbz ow nK EW;go_wp2;exact⟨rfl,Ah.out,.inr ⟨cB.out,rfl⟩⟩
   .have cB:Hid (∀v k,Ce.num (Ce.bD n g) n q=some (v,k)->v<least):=fun v k h=>by rw[dr] at h;cases h
    rw[Nat.sub_self] at HV hsc;by_cases dW:cap=q
    .rw[if_pos dW] at HV
     subst dW;have nK:Hid (∀V,Below wc.heap.size wc V->_):=fun V hV=>rX (cap:=0) (HV.out V hV).1 (HV.out V hV).2 (by omega) (aaR _) hsc
     clear hsc dr HV;go_wp2_with fail
     go_region_held3 (fun V=>V.cell? ⟨b,0,none⟩=some (.slice (some ⟨tb,tq,none⟩) n cap)/\V.cell? ⟨b,1,none⟩=some (.int .i64 (cap:Int))/\Below wc.heap.size wc V)
      (exact EW.out _ (by first|assumption|exact hbr))
      ((go_at_call 67;with_reducible refine(nK.out _ (by first|assumption|exact hbr)).mono ?_;rintro e w6 ⟨ow,T,rfl,t0⟩;have hbz:Below wc.heap.size wc w6:=acd (by first|assumption|exact hbr) (ow.mono (acv (by first|assumption|exact hbr)))))
     have Ah:=ζ (aj jQ.out (ck (r:=some b) hbz));clear hbz ow nK EW;go_wp2;exact⟨rfl,Ah.out,.inr ⟨cB.out,rfl⟩⟩
    .rw[if_neg dW] at HV
     have nK:Hid (∀V,Below wc.heap.size wc V->_):=fun V hV=>rX (cap:=cap-q) (HV.out V hV).1 (HV.out V hV).2 (by omega) (aaR _) hsc
     clear hsc dr HV;go_wp2_with fail
     go_region_held3 (fun V=>V.cell? ⟨b,0,none⟩=some (.slice (some ⟨tb,tq,none⟩) n cap)/\V.cell? ⟨b,1,none⟩=some (.int .i64 (q:Int))/\Below wc.heap.size wc V)
      (exact EW.out _ (by first|assumption|exact hbr))
      ((go_at_call 67;with_reducible refine(nK.out _ (by first|assumption|exact hbr)).mono ?_;rintro e w6 ⟨ow,T,rfl,t0⟩;have hbz:Below wc.heap.size wc w6:=acd (by first|assumption|exact hbr) (ow.mono (acv (by first|assumption|exact hbr)))))
     have Ah:=ζ (aj jQ.out (ck (r:=some b) hbz));clear hbz ow nK EW;go_wp2;exact⟨rfl,Ah.out,.inr ⟨cB.out,rfl⟩⟩
end
section
open Go.Proofs.Tryz
open Go.RowKit
def Tk {α:Type} (R:Except Nat (α×Nat)) (val:α->World->Value->Prop) (b:Nat) (ao:Option Addr) (n cap:Nat) (w:World) (e:Ending) (w':World):Prop:=
 w.grownBy w' (some b)/\((∃a k v,R= .ok (a,k)/\e= .returned v/\val a w' v/\cK w' b ao n cap k/\k<=n)\/∃p:Nat,R= .error p/\e=b8 p)
structure cU (w:World) (b:Nat) (ao:Option Addr) (n cap p:Nat) (g:Nat->Int):Prop where
 ng:cK w b ao n cap p
 txt:aJ w ao n g
 FW:∀x,ao=some x->x.block<b/\x.spot=none
 len:n<=33554432
 fit:n<=cap
 pos:p<=n
theorem cU.next {w w':World} {b:Nat} {ao:Option Addr} {n cap p q:Nat} {g:Nat->Int} (h:cU w b ao n cap p g) (hg:w.grownBy w' (some b)) (hr:cK w' b ao n cap q) (hq:q<=n):cU w' b ao n cap q g:=
 ⟨hr,h.txt.grown hg (fun x hx=>by have:=(h.FW x hx).1;omega),h.FW,h.len,h.fit,hq⟩
theorem cU.later {w w':World} {b:Nat} {ao:Option Addr} {n cap p:Nat} {g:Nat->Int} (h:cU w b ao n cap p g) (hb:Below w.heap.size w w'):cU w' b ao n cap p g:=
 ⟨h.ng.later hb,h.txt.later hb,h.FW,h.len,h.fit,h.pos⟩
theorem cU.yes {w:World} {b:Nat} {ao:Option Addr} {n cap p:Nat} {g:Nat->Int} (h:cU w b ao n cap p g) {c:Int} (h0:0<=c) (hc:Ce.bD n g p=c):
 Calls prog 117 #[.pointer (some ⟨b,0,none⟩),.int .u8 c] w fun e w'=>e= .returned (.tuple #[])/\w.grownBy w' (some b)/\cU w' b ao n cap (p+1) g:=
 (JZ h.ng h.txt h.len h.pos h0 hc).mono fun _ _ ⟨he,hr,hg,hlt⟩=>⟨he,hg,h.next hg hr hlt⟩
theorem cU.no {w:World} {b:Nat} {ao:Option Addr} {n cap p:Nat} {g:Nat->Int} (h:cU w b ao n cap p g) {c:Int} (hc:Ce.bD n g p≠c):
 Calls prog 117 #[.pointer (some ⟨b,0,none⟩),.int .u8 c] w fun e w'=>e=b8 p/\w.grownBy w' (some b):=Nz h.ng h.txt h.len h.pos hc
theorem cU.CY {w:World} {b:Nat} {ao:Option Addr} {n cap p:Nat} {g:Nat->Int} (h:cU w b ao n cap p g) {c:Int} (h0:0<=c) (hc:Ce.bD n g p=c):
 Calls prog 115 #[.pointer (some ⟨b,0,none⟩),.int .u8 c] w fun e w'=>e= .returned (.bool true)/\w.grownBy w' (some b)/\cU w' b ao n cap (p+1) g:=
 (vB h.ng h.txt h.len h.pos h0 hc).mono fun _ _ ⟨he,hr,hg,hlt⟩=>⟨he,hg,h.next hg hr hlt⟩
theorem cU.IJ {w:World} {b:Nat} {ao:Option Addr} {n cap p:Nat} {g:Nat->Int} (h:cU w b ao n cap p g) {c:Int} (hc:Ce.bD n g p≠c):
 Calls prog 115 #[.pointer (some ⟨b,0,none⟩),.int .u8 c] w fun e w'=>e= .returned (.bool false)/\w.grownBy w' (some b)/\cU w' b ao n cap p g:=
 (xC h.ng h.txt h.len h.pos hc).mono fun _ _ ⟨he,hr,hg⟩=>⟨he,hg,h.next hg hr h.pos⟩
theorem cU.num {w:World} {b:Nat} {ao:Option Addr} {n cap p:Nat} {g:Nat->Int} (h:cU w b ao n cap p g) (least:Int):
 Calls prog 226 #[.pointer (some ⟨b,0,none⟩),.int .i64 least] w fun e w'=>w.grownBy w' (some b)/\((∃v k,Ce.num (Ce.bD n g) n p=some (v,k)/\least<=v/\e= .returned (.int .i64 v)/\cU w' b ao n cap k g/\Ce.dR v/\p<k)\/((∀v k,Ce.num (Ce.bD n g) n p=some (v,k)->v<least)/\e=b8 p)):=
 (Fm h.ng h.txt h.FW h.len h.fit h.pos least).mono fun _ _ ⟨hg,hx⟩=>⟨hg,by
   rcases hx with ⟨v,k,h1,h2,h3,h4⟩|hx
   .obtain⟨m1,m2,m3,m4⟩:=Ce.fS h.pos h1
    have:=Ce.Ek v;exact .inl ⟨v,k,h1,h2,h3,h.next hg h4 m4,m1,by omega⟩
   .exact .inr hx⟩
theorem cU.Qh {w:World} {b:Nat} {ao:Option Addr} {n cap p:Nat} {g:Nat->Int} (h:cU w b ao n cap p g) {least v:Int} {k:Nat} (hm:Ce.num (Ce.bD n g) n p=some (v,k)) (hl:least<=v):
 Calls prog 226 #[.pointer (some ⟨b,0,none⟩),.int .i64 least] w fun e w'=>e= .returned (.int .i64 v)/\w.grownBy w' (some b)/\cU w' b ao n cap k g:=
 (h.num least).mono fun _ _ ⟨hg,hx⟩=>by
   rcases hx with ⟨v',k',h1,h2,h3,h4,-,-⟩|⟨h1,-⟩
   .rw[hm] at h1
    cases h1;exact⟨h3,hg,h4⟩
   .have:=h1 v k hm
    omega
theorem cU.Oc {w:World} {b:Nat} {ao:Option Addr} {n cap p:Nat} {g:Nat->Int} (h:cU w b ao n cap p g) {least:Int} (hm:∀v k,Ce.num (Ce.bD n g) n p=some (v,k)->v<least):
 Calls prog 226 #[.pointer (some ⟨b,0,none⟩),.int .i64 least] w fun e w'=>e=b8 p/\w.grownBy w' (some b):=
 (h.num least).mono fun _ _ ⟨hg,hx⟩=>by
   rcases hx with ⟨v',k',h1,h2,-⟩|⟨-,h1⟩
   .have:=hm v' k' h1
    omega
   .exact⟨h1,hg⟩
def Ce.cnt (B:Nat->Int) (n:Nat) (most:Int) (i:Nat):Except Nat (Int×Nat):=
 if B i≠32 then .error i else match Ce.num B n (i+1) with
 |none=> .error (i+1)
 |some (k,e)=>if most<k then .error (i+1) else if B e≠10 then .error e else .ok (k,e+1)
theorem yy {b:Nat} {ao:Option Addr} {n cap p:Nat} {g:Nat->Int} {w:World} (h:cU w b ao n cap p g) (most:Int):
 Calls prog 168 #[.pointer (some ⟨b,0,none⟩),.int .i64 most] w (Tk (Ce.cnt (Ce.bD n g) n most p) (fun k _ v=>v= .int .i64 k/\Ce.dR k) b ao n cap w):=by
 have H:=ζ h;obtain⟨R,hR⟩:∃R,Ce.cnt (Ce.bD n g) n most p=R:=⟨_,rfl⟩;rw[hR];unfold Ce.cnt at hR;by_cases h1:Ce.bD n g p=32
 .rw[if_neg (by simpa using h1)] at hR
  have HR:=ζ hR;clear hR h;go_enter func168,ntmps168;go_wp2_with (go_at_call 117;refine(H.out.yes (by decide) h1).mono ?_;refine aaI ?_);refine ζ ?_;rintro e w1 ⟨rfl,hg1,h1'⟩;have c1:=h1'.ng.place;have H1:=ζ h1';have dB:=ζ hg1;clear h1' hg1;go_wp2_with (go_at_call 226;refine(H1.out.num 0).mono ?_;refine aaI ?_);refine ζ ?_;rintro e w2 ⟨hg2,⟨v,k,dr,hv,rfl,h2,hok,-⟩|⟨hno,rfl⟩⟩
  .have hR:=HR.out
   rw[dr] at hR;dsimp only at hR;have H2:=ζ h2;have cA:=ζ (aj dB.out hg2);by_cases hm:most<v
   .rw[if_pos hm] at hR
    have tG:=ζ hR;clear hR hg2 h2 dr;go_wp2;exact⟨rfl,cA.out,.inr ⟨p+1,tG.out.symm,rfl⟩⟩
   .rw[if_neg hm] at hR
    by_cases h10:Ce.bD n g k=10
    .rw[if_neg (by simpa using h10)] at hR
     have tG:=ζ hR;clear hR hg2 h2 dr;go_wp2_with (go_at_call 117;refine(H2.out.yes (by decide) h10).mono ?_;refine aaI ?_);refine ζ ?_;rintro e w3 ⟨rfl,hg3,h3⟩;go_wp2;go_ret;exact⟨aj cA.out hg3,.inl ⟨v,k+1,_,tG.out.symm,rfl,⟨rfl,hok⟩,h3.ng,h3.pos⟩⟩
    .rw[if_pos (by simpa using h10)] at hR
     have tG:=ζ hR;clear hR hg2 h2 dr;go_wp2_with (go_at_call 117;refine(H2.out.no h10).mono ?_;refine aaI ?_);refine ζ ?_;rintro e w3 ⟨rfl,hg3⟩;exact⟨rfl,aj cA.out hg3,.inr ⟨k,tG.out.symm,rfl⟩⟩
  .have hR:=HR.out
   have hm:Ce.num (Ce.bD n g) n (p+1)=none:=by
    cases hm:Ce.num (Ce.bD n g) n (p+1) with
    |none=>rfl
    |some q=>
     have h1:=hno q.1 q.2 hm;have h2:=(Ce.fS (H1.out.pos) hm).1.1;omega
   rw[hm] at hR;exact⟨rfl,aj dB.out hg2,.inr ⟨p+1,hR.symm,rfl⟩⟩
 .rw[if_pos (by simpa using h1)] at hR
  go_enter func168,ntmps168;go_wp2_with (go_at_call 117;refine(H.out.no h1).mono ?_;refine aaI ?_);refine ζ ?_;rintro e w1 ⟨rfl,hg1⟩;exact⟨rfl,hg1,.inr ⟨p,hR.symm,rfl⟩⟩
end
section
open Go.Proofs.Tryz
open Go.RowKit
structure B6 (w:World) (la lb u v:Int) (W:World):Prop where
 last:W.heap[w.heap.size]? =some (.cells #[.int .i64 la,.int .i64 lb] 66 (0,0))
 res:W.heap[w.heap.size+1]? =some (.cells #[.int .i64 0,.int .i64 0] 66 (0,0))
 box:W.heap[w.heap.size+1+1]? =some (.cells #[.int .i64 u,.int .i64 v] 66 (0,0))
section
variable {w W W':World} {la lb u v:Int}
theorem B6.kept {b:Nat} (h:B6 w la lb u v W) (hg:W.grownBy W' (some b)) (hb:b<w.heap.size):B6 w la lb u v W':=
 ⟨(hg.block _ (lt_of_block h.last) (by simp;omega)).trans h.last,(hg.block _ (lt_of_block h.res) (by simp;omega)).trans h.res,(hg.block _ (lt_of_block h.box) (by simp;omega)).trans h.box⟩
theorem B6.adS (h:B6 w la lb u v W) (x:Int):B6 w la lb x v (W.setCell ⟨w.heap.size+1+1,0,none⟩ (.int .i64 x)):=by
 refine⟨?_,?_,?_⟩
 .rw[heap_setCell_other _ ⟨w.heap.size+1+1,0,none⟩ _ _ (by simp;omega)];exact h.last
 .rw[heap_setCell_other _ ⟨w.heap.size+1+1,0,none⟩ _ _ (by simp)];exact h.res
 .rw[heap_setCell_same _ _ 0 _ _ _ h.box];simp
theorem B6.adR (h:B6 w la lb u v W) (x:Int):B6 w la lb u x (W.setCell ⟨w.heap.size+1+1,1,none⟩ (.int .i64 x)):=by
 refine⟨?_,?_,?_⟩
 .rw[heap_setCell_other _ ⟨w.heap.size+1+1,1,none⟩ _ _ (by simp;omega)];exact h.last
 .rw[heap_setCell_other _ ⟨w.heap.size+1+1,1,none⟩ _ _ (by simp)];exact h.res
 .rw[heap_setCell_same _ _ 1 _ _ _ h.box];simp
theorem B6.start:B6 w la lb 0 0 (((w.alloc (.cells #[.int .i64 la,.int .i64 lb] 66)).alloc (.cells #[.int .i64 0,.int .i64 0] 66)).alloc (.cells #[.int .i64 0,.int .i64 0] 66)):=by
 have e1:=heap_alloc_new w (.cells #[.int .i64 la,.int .i64 lb] 66);have e2:=heap_alloc_new (w.alloc (.cells #[.int .i64 la,.int .i64 lb] 66)) (.cells #[.int .i64 0,.int .i64 0] 66);have e3:=heap_alloc_new ((w.alloc (.cells #[.int .i64 la,.int .i64 lb] 66)).alloc (.cells #[.int .i64 0,.int .i64 0] 66)) (.cells #[.int .i64 0,.int .i64 0] 66);rw[aa7] at e2;rw[aa7,aa7] at e3;refine⟨?_,?_,e3⟩
 .rw[aa0 _ _ _ (by simp;omega),aa0 _ _ _ (by simp)]
  exact e1
 .rw[aa0 _ _ _ (by simp)]
  exact e2
end
theorem dX {w W:World} {r:Option Nat} (h:w.grownBy W r) {b:Nat} (hb:w.heap.size<=b) (i:Nat) (x:Value):w.grownBy (W.setCell ⟨b,i,none⟩ x) r:=
 ⟨h.os,h.tape,h.output,by simpa using h.size,fun k hk hne=>(heap_setCell_other _ ⟨b,i,none⟩ k _ (by dsimp only;omega)).trans (h.block k hk hne)⟩
theorem cU.set {w:World} {b:Nat} {ao:Option Addr} {n cap p:Nat} {g:Nat->Int} (h:cU w b ao n cap p g) {B:Nat} (hB:b<B) (i:Nat) (x:Value):cU (w.setCell ⟨B,i,none⟩ x) b ao n cap p g:=by
 refine⟨(heap_setCell_other _ ⟨B,i,none⟩ b _ (by dsimp only;omega)).trans h.ng,fun j hj=> ?_,h.FW,h.len,h.fit,h.pos⟩;obtain⟨hb,tb,tq,e,hc⟩:=h.txt j hj;refine⟨hb,tb,tq,e,?_⟩;have:=(h.FW _ e).1;rw[abF (w:=w) (heap_setCell_other _ ⟨B,i,none⟩ tb _ (by dsimp only at this ⊢;omega))];exact hc
theorem Bb {b:Nat} {ao:Option Addr} {n cap p:Nat} {g:Nat->Int} {w:World} (h:cU w b ao n cap p g) (la lb:Int):
 Calls prog 170 #[.pointer (some ⟨b,0,none⟩),.agg #[.int .i64 la,.int .i64 lb]] w (Tk (Ce.oT (Ce.bD n g) n p (la,lb)) (fun p _ v=>v= .agg #[.int .i64 p.1,.int .i64 p.2]) b ao n cap w):=by
 have dO:=h.ng.lt;obtain⟨R,hR⟩:∃R,Ce.oT (Ce.bD n g) n p (la,lb)=R:=⟨_,rfl⟩;rw[hR];unfold Ce.oT at hR;have HR:=ζ hR;have H0:=ζ (((h.later ((aaG _ _).alloc (aaF _) (.cells #[.int .i64 la,.int .i64 lb] 66))).later ((aaG _ _).alloc (aaF _) (.cells #[.int .i64 0,.int .i64 0] 66))).later ((aaG _ _).alloc (aaF _) (.cells #[.int .i64 0,.int .i64 0] 66)));have jR:=ζ (bO (bO (ab4 w (.cells #[.int .i64 la,.int .i64 lb] 66) (some b)) (.cells #[.int .i64 0,.int .i64 0] 66)) (.cells #[.int .i64 0,.int .i64 0] 66));have HE0:=ζ (B6.start (w:=w) (la:=la) (lb:=lb));have c1:=h.ng.place;clear h hR;cases hm:Ce.num (Ce.bD n g) n p with
 |none=>
  have hR:=HR.out;rw[hm] at hR;go_enter func170,ntmps170;go_wp2_with (go_at_call 226;refine(H0.out.Oc (least:=0) (fun v k h=>by rw[hm] at h;cases h)).mono ?_;rintro e w1 ⟨he,hg1⟩;rw[b8] at he;subst he);exact⟨rfl,aj jR.out hg1,.inr ⟨p,hR.symm,rfl⟩⟩
 |some q=>
  obtain⟨u,k⟩:=q;have hR:=HR.out;rw[hm] at hR;dsimp only at hR;obtain⟨hok,-,-,hkn⟩:=Ce.fS H0.out.pos hm;have hu:=hok.1;have hu9:=hok.2;have HM:=ζ hm;clear HR hm;go_enter func170,ntmps170;go_wp2_with (go_at_call 226;refine(H0.out.Qh HM.out hu).mono ?_;rintro e w1 ⟨rfl,hg1,h1⟩;have jI:=HE0.out.kept hg1 dO;have b0:=(aU jI.box).1;have b1:=(aU jI.box).2.1;have fz:=(aU jI.box).2.2 0;refine aaI ?_);refine ζ ?_;have cA:=ζ (dX (aj jR.out hg1) (b:=w.heap.size+1+1) (by omega) 0 (.int .i64 u));have HE2:=ζ (jI.adS u);have H2:=ζ (h1.set (B:=w.heap.size+1+1) (by omega) 0 (.int .i64 u));clear hg1 jI h1;by_cases gi:Ce.bD n g k=32
  .rw[if_neg (by simpa using gi)] at hR
   have hlt:=Ce.gw H0.out.txt.txt gi (by decide);go_wp2_with (go_at_call 117;refine(H2.out.yes (by decide) gi).mono ?_;rintro e w3 ⟨rfl,hg3,h3⟩;refine aaI ?_);refine ζ ?_;have SB:=HE2.out.kept hg3 dO;have iC:=ζ (aj cA.out hg3);have d0:=(aU SB.box).1;have Za:=ζ SB;have H3:=ζ h3;clear b0 b1 fz hg3 h3 SB;cases hm2:Ce.num (Ce.bD n g) n (k+1) with
   |none=>
    rw[hm2] at hR;go_wp2_with (go_at_call 226;refine(H3.out.Oc (least:=u+1) (fun v k h=>by rw[hm2] at h;cases h)).mono ?_;rintro e w4 ⟨he,hg4⟩;rw[b8] at he;subst he);exact⟨rfl,aj iC.out hg4,.inr ⟨k+1,hR.symm,rfl⟩⟩
   |some q=>
    obtain⟨v,j⟩:=q;rw[hm2] at hR;dsimp only at hR;have HM2:=ζ hm2;have HR:=ζ hR;clear hm2;by_cases huv:v<=u
    .rw[if_pos huv] at hR
     go_wp2_with (go_at_call 226;refine(H3.out.Oc (least:=u+1) (fun v' k' h=>by rw[HM2.out] at h;cases h;omega)).mono ?_;rintro e w4 ⟨he,hg4⟩;rw[b8] at he;subst he);exact⟨rfl,aj iC.out hg4,.inr ⟨k+1,hR.symm,rfl⟩⟩
    .rw[if_neg huv] at hR
     go_wp2_with (go_at_call 226;refine(H3.out.Qh HM2.out (by omega)).mono ?_;rintro e w4 ⟨rfl,hg4,h4⟩;have Yp:=Za.out.kept hg4 dO;have c4:=(aU Yp.box).2.1;have fz4:=(aU Yp.box).2.2 1;refine aaI ?_);refine ζ ?_;have Ga:=ζ (dX (aj iC.out hg4) (b:=w.heap.size+1+1) (by omega) 1 (.int .i64 v));have OV:=Yp.adR v;obtain⟨b0,b1,-⟩:=aU OV.box;obtain⟨l0,l1,-⟩:=aU OV.last;have Y9:=ζ OV;have H5:=ζ (h4.set (B:=w.heap.size+1+1) (by omega) 1 (.int .i64 v));have hab:Hid (∀W,Calls prog 227 #[.agg #[.int .i64 u,.int .i64 v],.agg #[.int .i64 la,.int .i64 lb]] W fun e w'=>e= .returned (.bool (decide (la<u\/(la=u/\lb<v))))/\Below W.heap.size W w'):=fun W=>M0 u v la lb W
     clear d0 hg4 Yp h4 OV;by_cases Z0:la<u\/(la=u/\lb<v)
     .rw[decide_eq_true Z0] at hab
      rw[if_neg (by omega)] at hR;go_wp2_with (go_at_call 227;refine(hab.out _).mono ?_;rintro e w6 ⟨rfl,kL⟩;refine aaI ?_);refine ζ ?_;have H6:=ζ (H5.out.later kL);have TD:=ζ (aj Ga.out (ck (r:=some b) kL));have HE6:=ζ (Y9.out.kept (ck (r:=some b) kL) dO);clear kL b0 b1 l0 l1 c4 fz4;by_cases h10:Ce.bD n g j=10
      .rw[if_neg (by simpa using h10)] at hR
       go_wp2_with (go_at_call 117;refine(H6.out.yes (by decide) h10).mono ?_;rintro e w7 ⟨rfl,Yn,h7⟩;have SA:=HE6.out.kept Yn dO;have b0:=(aU SA.box).1;have b1:=(aU SA.box).2.1;have r0:=(aU SA.res).1;have r1:=(aU SA.res).2.1;have rf:=(aU SA.res).2.2);have k0:((w7.setCell ⟨w.heap.size+1,0,none⟩ (.int .i64 u)).setCell ⟨w.heap.size+1,1,none⟩ (.int .i64 v)).heap[w.heap.size+1]? =some (.cells #[.int .i64 u,.int .i64 v] 66 (0,0)):=by
        rw[heap_setCell_same _ _ 1 _ _ _ (heap_setCell_same _ _ 0 _ _ _ SA.res)];simp
       refine bodyPost_ret (v:= .agg #[.int .i64 u,.int .i64 v]) (results_cell_row (p:=4) (ty:=66) results170 _ _ (w.heap.size+1) 66 _ (0,0) _ rfl k0 Tryz.underlying66 rfl (by kernel_rfl)) rfl ?_;exact⟨dX (dX (aj TD.out Yn) (b:=w.heap.size+1) (by omega) 0 _) (b:=w.heap.size+1) (by omega) 1 _,.inl ⟨(u,v),j+1,_,hR.symm,rfl,rfl,((h7.set (B:=w.heap.size+1) (by omega) 0 _).set (B:=w.heap.size+1) (by omega) 1 _).ng,h7.pos⟩⟩
      .rw[if_pos (by simpa using h10)] at hR
       go_wp2_with (go_at_call 117;refine(H6.out.no h10).mono ?_;rintro e w7 ⟨he,Yn⟩;rw[b8] at he;subst he);exact⟨rfl,aj TD.out Yn,.inr ⟨j,hR.symm,rfl⟩⟩
     .rw[decide_eq_false Z0] at hab
      rw[if_pos (by omega)] at hR;go_wp2_with (go_at_call 227;refine(hab.out _).mono ?_;rintro e w6 ⟨rfl,kL⟩);exact⟨rfl,aj Ga.out (ck kL),.inr ⟨p,hR.symm,rfl⟩⟩
  .rw[if_pos (by simpa using gi)] at hR
   go_wp2_with (go_at_call 117;refine(H2.out.no gi).mono ?_;rintro e w3 ⟨he,hg3⟩;rw[b8] at he;subst he);exact⟨rfl,aj cA.out hg3,.inr ⟨k,hR.symm,rfl⟩⟩
end
section
open Go.Proofs.Tryz
open Go.RowKit
structure oG (w:World) (es:List (Int×Int)) (k:Nat) (la lb:Int) (W:World):Prop where
 low:Below w.heap.size w W
 last:W.heap[w.heap.size]? =some (.cells #[.int .i64 la,.int .i64 lb] 66 (0,0))
 one:∀(i:Nat) (p:Int×Int),i<k->es[i]? =some p->Ce.dR p.1/\Ce.dR p.2/\p.1<p.2
 two:∀(i:Nat) (p q:Int×Int),i+1<k->es[i]? =some p->es[i+1]? =some q->p.1<q.1\/(p.1=q.1/\p.2<q.2)
 zero:k=0->la=0/\lb=0
 prev:∀(j:Nat) (p:Int×Int),k=j+1->es[j]? =some p->(la,lb)=p
section
variable {w W W':World} {es:List (Int×Int)} {k:Nat} {la lb u v:Int}
theorem oG.later (h:oG w es k la lb W) (hb:Below W.heap.size W W'):oG w es k la lb W':=
 ⟨h.low.trans (hb.mono h.low.size),(hb.block _ (lt_of_block h.last)).trans h.last,h.one,h.two,h.zero,h.prev⟩
theorem oG.more (h:oG w es k la lb W) (he:es[k]? =some (u,v)) (h1:Ce.dR u/\Ce.dR v/\u<v) (h2:la<u\/(la=u/\lb<v)):oG w es (k+1) u v ((W.setCell ⟨w.heap.size,0,none⟩ (.int .i64 u)).setCell ⟨w.heap.size,1,none⟩ (.int .i64 v)):=by
 refine⟨(h.low.setCell (p:=⟨w.heap.size,0,none⟩) (aaF _) _).setCell (p:=⟨w.heap.size,1,none⟩) (aaF _) _,?_,fun i p hi hp=> ?_,fun i p q hi hp hq=> ?_,fun h=>absurd h (by omega),fun j p hj hp=> ?_⟩
 .rw[heap_setCell_same _ _ 1 _ _ _ (heap_setCell_same W _ 0 _ _ _ h.last)]
  simp
 .by_cases hik:i=k
  .subst hik
   rw[he] at hp;cases hp;exact h1
  .exact h.one i p (by omega) hp
 .by_cases hik:i+1=k
  .have:=h.prev i p (by omega) hp
   subst this;rw[hik,he] at hq;cases hq;exact h2
  .exact h.two i p q (by omega) hp hq
 .obtain rfl:k=j:=by omega
  rw[he] at hp;cases hp;rfl
theorem oG.no (h:oG w es k la lb W) (he:es[k]? =some (u,v)) (hn:¬((Ce.dR u/\Ce.dR v/\u<v)/\(la<u\/(la=u/\lb<v)))):¬Ce.lZ es:=fun ho=>by
 have h1:=ho.1.1 (u,v) (aaJ he);dsimp only at h1;refine hn ⟨h1,?_⟩;cases k with
 |zero=>
  obtain⟨rfl,rfl⟩:=h.zero rfl;have:=h1.1.1;have:=h1.2.2;omega
 |succ j=>
  have hj:j<es.length:=by have:=(aaH.1 he).1;omega
  have hp:es[j]? =some es[j]:=aaE hj;have e:=h.prev j _ rfl hp;have h2:=ho.1.2 j _ (u,v) hp he;rw[<-e] at h2;exact h2
theorem oG.yes (h:oG w es es.length la lb W) (hl:es.length<=4194304):Ce.lZ es:=by
 refine⟨⟨fun p hp=> ?_,fun i p q hp hq=>h.two i p q (aaH.1 hq).1 hp hq⟩,hl⟩;obtain⟨i,hi⟩:=abg hp;exact h.one i p (aaH.1 hi).1 hi
theorem oG.start (w:World) (es:List (Int×Int)):oG w es 0 0 0 (w.alloc (.cells #[.int .i64 0,.int .i64 0] 66)):=
 ⟨(aaG _ _).alloc (aaF _) _,heap_alloc_new w _,fun i p h=>by omega,fun i p q h=>by omega,fun _=>⟨rfl,rfl⟩,fun j p h=>by omega⟩
end
theorem vA {w:World} {ao:Option Addr} {c:Nat} {es:List (Int×Int)} (h:ah w ao es) (hs:es.length<=4611686018427387904):
 Calls prog 335 #[.slice ao es.length c] w fun e w'=>Ce.Says e (Ce.lZ es)/\Below w.heap.size w w':=by
 obtain⟨n,hn⟩:∃n,es.length=n:=⟨_,rfl⟩;rw[hn] at hs ⊢;have HS:=ζ h;have HN:=ζ hn;clear h hn;by_cases hc:4194304<n
 .have uP:(4194304:Int)<(n:Int):=by omega
  go_enter func335,ntmps335;go_wp2;go_ret;exact⟨Ce.Says.no fun h=>by have:=h.2;have:=HN.out;omega,aaG _ _⟩
 .have uP:¬((4194304:Int)<(n:Int)):=by omega
  go_enter func335,ntmps335;go_wp2;go_loopw [11] (fun iv wr=>∃(k:Nat) (la lb:Int),k<=n/\iv= .int .i64 (k:Int)/\oG w es k la lb wr) (fun iv _=>n-(intOf iv).toNat)
  case atStart=>exact⟨0,0,0,aaR _,rfl,oG.start w es⟩
  case round=>
   obtain⟨k,la,lb,hk,rfl,hf⟩:=hrel;have HF:=ζ hf;clear hf;by_cases hlt:k<n
   .have aP:(k:Int)<(n:Int):=by omega
    obtain⟨⟨u,v⟩,he⟩:∃p,es[k]? =some p:=⟨_,aaE (by have:=HN.out;omega)⟩;obtain⟨b,o,rfl,g0,g1⟩:=(HS.out.later HF.out.low) k (u,v) he;dsimp only at g0 g1;have HE:=ζ he;have k0:(0:Int)<=(k:Int):=by omega
    have hf2:=HF.out.later ((aaG _ _).alloc (aaF _) (.cells #[.int .i64 u,.int .i64 v] 66));obtain⟨l0,l1,lf⟩:=aU hf2.last;have EZ:=ζ hf2;have O0:Hid (∀W,Calls prog 334 #[.int .i64 u] W fun e w'=>e= .returned (.bool (decide (0<=u/\u<=999999999)))/\w'=W):=fun W=>qq u W
    have OZ:Hid (∀W,Calls prog 334 #[.int .i64 v] W fun e w'=>e= .returned (.bool (decide (0<=v/\v<=999999999)))/\w'=W):=fun W=>qq v W
    have Yy:Hid (∀W,Calls prog 227 #[.agg #[.int .i64 u,.int .i64 v],.agg #[.int .i64 la,.int .i64 lb]] W fun e w'=>e= .returned (.bool (decide (la<u\/(la=u/\lb<v))))/\Below W.heap.size W w'):=fun W=>M0 u v la lb W
    clear he hf2;by_cases hu:0<=u/\u<=999999999
    .rw[decide_eq_true hu] at O0
     by_cases hv:0<=v/\v<=999999999
     .rw[decide_eq_true hv] at OZ
      by_cases huv:v<=u
      .have cB:=ζ (HF.out.no HE.out fun h=>by have:=h.1.2.2;omega)
       clear hu hv;go_wp2_with (first|(go_at_call 334;with_reducible refine(O0.out _).mono ?_;rintro e w' ⟨rfl,hw'⟩;obtain rfl:=hw'.symm;clear hw')|(go_at_call 334;with_reducible refine(OZ.out _).mono ?_;rintro e w' ⟨rfl,hw'⟩;obtain rfl:=hw'.symm;clear hw'));go_ret;exact⟨Ce.Says.no cB.out,EZ.out.low⟩
      .have hvu:¬u>=v:=huv
       by_cases hab:la<u\/(la=u/\lb<v)
       .rw[decide_eq_true hab] at Yy
        have iB:Hid ((Ce.dR u/\Ce.dR v/\u<v)/\(la<u\/(la=u/\lb<v))):=⟨⟨hu,hv,by omega⟩,hab⟩;clear hu hv hab;go_wp2_with (first|(go_at_call 334;with_reducible refine(O0.out _).mono ?_;rintro e w' ⟨rfl,hw'⟩;obtain rfl:=hw'.symm;clear hw')|(go_at_call 334;with_reducible refine(OZ.out _).mono ?_;rintro e w' ⟨rfl,hw'⟩;obtain rfl:=hw'.symm;clear hw')|(go_at_call 227;with_reducible refine(Yy.out _).mono ?_;rintro e w6 ⟨rfl,kL⟩;have zS:=EZ.out.later kL;have m0:=(aU zS.last).1;have m1:=(aU zS.last).2.1;have mf:=(aU zS.last).2.2;have hz:=heap_alloc_new wr (.cells #[.int .i64 u,.int .i64 v] 66);have hz6:=(kL.block _ (lt_of_block hz)).trans hz;have n0:=(aU hz6).1;have n1:=(aU hz6).2.1;have HF6:=ζ zS;clear kL zS hz hz6));go_roundw
        case rel=>exact⟨k+1,u,v,by omega,by go_num,HF6.out.more HE.out iB.out.1 iB.out.2⟩
        case measure=>simp[intOf];omega
       .rw[decide_eq_false hab] at Yy
        have cB:=ζ (HF.out.no HE.out fun h=>hab h.2);clear hu hv hab;go_wp2_with (first|(go_at_call 334;with_reducible refine(O0.out _).mono ?_;rintro e w' ⟨rfl,hw'⟩;obtain rfl:=hw'.symm;clear hw')|(go_at_call 334;with_reducible refine(OZ.out _).mono ?_;rintro e w' ⟨rfl,hw'⟩;obtain rfl:=hw'.symm;clear hw')|(go_at_call 227;with_reducible refine(Yy.out _).mono ?_;rintro e w6 ⟨rfl,kL⟩));go_ret;exact⟨Ce.Says.no cB.out,(EZ.out.later kL).low⟩
     .rw[decide_eq_false hv] at OZ
      have cB:=ζ (HF.out.no HE.out fun h=>hv h.1.2.1);clear hu hv;go_wp2_with (first|(go_at_call 334;with_reducible refine(O0.out _).mono ?_;rintro e w' ⟨rfl,hw'⟩;obtain rfl:=hw'.symm;clear hw')|(go_at_call 334;with_reducible refine(OZ.out _).mono ?_;rintro e w' ⟨rfl,hw'⟩;obtain rfl:=hw'.symm;clear hw'));go_ret;exact⟨Ce.Says.no cB.out,EZ.out.low⟩
    .rw[decide_eq_false hu] at O0
     have cB:=ζ (HF.out.no HE.out fun h=>hu h.1.1);clear hu;go_wp2_with (first|(go_at_call 334;with_reducible refine(O0.out _).mono ?_;rintro e w' ⟨rfl,hw'⟩;obtain rfl:=hw'.symm;clear hw')|(go_at_call 334;with_reducible refine(OZ.out _).mono ?_;rintro e w' ⟨rfl,hw'⟩;obtain rfl:=hw'.symm;clear hw'));go_ret;exact⟨Ce.Says.no cB.out,EZ.out.low⟩
   .have aP:¬((k:Int)<(n:Int)):=by omega
    obtain rfl:k=n:=by omega
    go_wp2;go_ret;have hf:=HF.out;rw[<-HN.out] at hf;exact⟨Ce.Says.yes (hf.yes (by have:=HN.out;omega)),HF.out.low⟩
end
end Go.Proofs.YtdbjpbjocmcpkaaGreatDoor
