import Derived.Test.YtdbjpbjocmcpkaaGreatDoorMk04
import Derived.Outline
import Derived.Deep.RegionWith
import Derived.Defers
import Derived.Recover
set_option maxHeartbeats 2000000
namespace Go.Proofs.YtdbjpbjocmcpkaaGreatDoor
section
open Go.Proofs.Tryz
open Go.RowKit
theorem Dw (b:Nat) (ao:Option Addr) (n cap p:Nat) (g:Nat->Int) (w:World) (hs:cT w b ao n cap p) (ht:aM w ao n g) (ha:Apart ao b) (hp:p<=n) (hn:n<=33554432):
 Calls prog 217 #[.pointer (some ⟨b,0,none⟩),.func (.func 219) #[] #[]] w fun e w'=>
  e= .returned (.tuple #[])/\∃q,Nu.cN Nu.isDigit g n p q/\cT w' b ao n cap q/\w.grownBy w' (some b):=by
 go_enter func217,ntmps217;go_wp2;go_loopw [] (fun wr=>∃q:Nat,p<=q/\q<=n/\(∀i,p<=i->i<q->Nu.isDigit (g i)=true)/\cT wr b ao n cap q/\w.grownBy wr (some b)) (fun wr=>n-posOf wr b)
 case atStart=>exact⟨p,aaD _,hp,fun i h1 h2=>by omega,hs,World.grownBy.refl _ _⟩
 case round=>
  obtain⟨q,GP,hq1,hall,nh,hgr⟩:=hrel;have c0:=nh.text;have c1:=nh.place;have fz:=nh.free 1;have HP:Hid (posOf wr b=q):=nh.pos;by_cases hlt:q<n
  .obtain⟨⟨b0,b1⟩,tb,to,rfl,hcr⟩:=(ht.grown hgr ha) q hlt
   have aX:(q:Int)<(n:Int):=by omega
   have UE:(0:Int)<=(q:Int):=by omega
   have ht':=ζ ht;have x9:=ζ hall;clear ht hall;cases hd:Nu.isDigit (g q)
   .go_wp2_with fail
    go_quiet ((go_at_call 219;exact abQ (jr _ _)));go_wp2
    go_end0
    exact⟨rfl,q,⟨GP,hq1,x9.out,fun _=>hd⟩,nh.drewN _,bD hgr _⟩
   .go_wp2_with fail
    go_quiet ((go_at_call 219;exact abQ (jr _ _)));go_wp2;go_roundw
    case rel=>
     refine⟨q+1,by omega,by omega,fun i h1 h2=> ?_,?_,?_⟩
     .by_cases e:i=q
      .subst e;exact hd
      .exact x9.out i h1 (by omega)
     .exact(nh.drewN _).set (q+1)
     .exact grownBy_setCell (bD hgr _) 1 _
    case measure=>
     have e1:posOf ((wr.drewN nq).setCell ⟨b,1,none⟩ (.int .i64 ((q:Int)+1))) b=q+1:=((nh.drewN nq).set (q+1)).pos;have e2:posOf wr b=q:=HP.out;rw[e1,e2];omega
  .have hd:decide ((q:Int)<(n:Int))=false:=by simp;omega
   have KA:q=n:=by omega
   have HQ:=ζ KA;clear KA;go_wp2_with fail;go_quiet (fail);go_wp2
   go_end0
   exact⟨rfl,q,⟨GP,hq1,hall,fun h=>absurd h hlt⟩,nh.drewN _,bD hgr _⟩
theorem Dx (b:Nat) (ao:Option Addr) (n cap p:Nat) (g:Nat->Int) (w:World) (hs:cT w b ao n cap p) (ht:aM w ao n g) (ha:Apart ao b) (hp:p<=n) (hn:n<=33554432):
 Calls prog 217 #[.pointer (some ⟨b,0,none⟩),.func (.func 218) #[] #[]] w fun e w'=>
  e= .returned (.tuple #[])/\∃q,Nu.cN Nu.ak g n p q/\cT w' b ao n cap q/\w.grownBy w' (some b):=by
 go_enter func217,ntmps217;go_wp2;go_loopw [] (fun wr=>∃q:Nat,p<=q/\q<=n/\(∀i,p<=i->i<q->Nu.ak (g i)=true)/\cT wr b ao n cap q/\w.grownBy wr (some b)) (fun wr=>n-posOf wr b)
 case atStart=>exact⟨p,aaD _,hp,fun i h1 h2=>by omega,hs,World.grownBy.refl _ _⟩
 case round=>
  obtain⟨q,GP,hq1,hall,nh,hgr⟩:=hrel;have c0:=nh.text;have c1:=nh.place;have fz:=nh.free 1;have HP:Hid (posOf wr b=q):=nh.pos;by_cases hlt:q<n
  .obtain⟨⟨b0,b1⟩,tb,to,rfl,hcr⟩:=(ht.grown hgr ha) q hlt
   have aX:(q:Int)<(n:Int):=by omega
   have UE:(0:Int)<=(q:Int):=by omega
   have ht':=ζ ht;have x9:=ζ hall;clear ht hall;cases hd:Nu.ak (g q)
   .go_wp2_with fail
    go_quiet ((go_at_call 218;exact abQ (yH _ _)));go_wp2
    go_end0
    exact⟨rfl,q,⟨GP,hq1,x9.out,fun _=>hd⟩,nh.drewN _,bD hgr _⟩
   .go_wp2_with fail
    go_quiet ((go_at_call 218;exact abQ (yH _ _)));go_wp2;go_roundw
    case rel=>
     refine⟨q+1,by omega,by omega,fun i h1 h2=> ?_,?_,?_⟩
     .by_cases e:i=q
      .subst e;exact hd
      .exact x9.out i h1 (by omega)
     .exact(nh.drewN _).set (q+1)
     .exact grownBy_setCell (bD hgr _) 1 _
    case measure=>
     have e1:posOf ((wr.drewN nq).setCell ⟨b,1,none⟩ (.int .i64 ((q:Int)+1))) b=q+1:=((nh.drewN nq).set (q+1)).pos;have e2:posOf wr b=q:=HP.out;rw[e1,e2];omega
  .have hd:decide ((q:Int)<(n:Int))=false:=by simp;omega
   have KA:q=n:=by omega
   have HQ:=ζ KA;clear KA;go_wp2_with fail;go_quiet (fail);go_wp2
   go_end0
   exact⟨rfl,q,⟨GP,hq1,hall,fun h=>absurd h hlt⟩,nh.drewN _,bD hgr _⟩
end
section
open Go.RowKit
theorem vX (ao:Option Addr) (n cap:Nat) (g:Nat->Int) (w:World) (ht:aM w ao n g) (hn:n<=9) (hd:∀i,i<n->48<=g i/\g i<=57):
 Calls Tryz.prog 264 #[.slice ao n cap] w fun e w'=>e= .returned (.int .i64 (Nu.val g 0 n))/\w'=w:=by
 go_enter Tryz.func264,Tryz.ntmps264;go_wp2
 go_loop [3,8] (fun v i=>∃k:Nat,k<=n/\i= .int .i64 k/\v= .int .i64 (Nu.val g 0 k)) (fun _ i=>n-(intOf i).toNat)
 case atStart=>exact⟨0,aaL _,rfl,rfl⟩
 case round=>
  obtain⟨k,hk,rfl,rfl⟩:=hrel;have hb:=Nu.Aa g 0 k (by omega) (fun i hi=>by simpa using hd i (by omega));by_cases hlt:k<n
  .obtain⟨_,tb,to,rfl,hc⟩:=ht k hlt
   have Sg:=hd k hlt;have HS:=ζ (show Nu.val g 0 (k+1)=10*Nu.val g 0 k+(g k-48) by simp[Nu.val]);have HT:=ζ ht;have HD:=ζ hd;clear ht hd;obtain⟨V,hV⟩:∃V,V=Nu.val g 0 k:=⟨_,rfl⟩;rw[<-hV] at hb HS ⊢;have HV:=ζ hV;clear hV;obtain⟨C,hC⟩:∃C,C=g k:=⟨_,rfl⟩;rw[<-hC] at Sg hc HS;have HC:=ζ hC;clear hC;go_wp2;go_round
   case rel=>
    refine⟨k+1,by omega,by go_num,?_⟩;rw[HS.out]
   case measure=>simp[intOf];omega
  .go_wp2
   go_ret;have:k=n:=by omega
   subst this;exact⟨rfl,rfl⟩
end
section
open Go.Proofs.Tryz
open Go.RowKit
theorem Nu.pO (g:Nat->Int) (q:Nat):∀k,Nu.val (fun i=>g (q+i)) 0 k=Nu.val g q k
 |0=>rfl
 |k+1=>by simp[Nu.val,Nu.pO g q k]
theorem aM.cut {w:World} {tb to n:Nat} {g:Nat->Int} (h:aM w (some ⟨tb,to,none⟩) n g) {q r:Nat} (hr:r<=n) (_hq:q<=r):aM w (some ⟨tb,to+q,none⟩) (r-q) (fun i=>g (q+i)):=by
 intro i hi;obtain⟨hb,tb',to',e,hc⟩:=h (q+i) (by omega);simp only[Option.some.injEq,acT] at e;obtain⟨rfl,rfl,_⟩:=e;exact⟨hb,tb,to+q,rfl,by rw[<-acq] at hc;exact hc⟩
theorem DG (b:Nat) (tb to n cap q:Nat) (g:Nat->Int) (w:World) (hs:cT w b (some ⟨tb,to,none⟩) n cap q) (ht:aM w (some ⟨tb,to,none⟩) n g) (ha:tb≠b) (hq:q<n) (hd:Nu.isDigit (g q)=true) (hn:n<=33554432) (hcap:n<=cap):
 Calls prog 220 #[.pointer (some ⟨b,0,none⟩)] w fun e w'=>
  ∃r,Nu.cN Nu.isDigit g n q r/\cT w' b (some ⟨tb,to,none⟩) n cap r/\w.grownBy w' (some b)/\
   ((¬(9<r-q\/(1<r-q/\g q=48))/\e= .returned (.agg #[.int .i64 1,.int .i64 q,.int .i64 r,.int .i64 (Nu.val g q (r-q))]))\/
    ((9<r-q\/(1<r-q/\g q=48))/\e= .panicked [{ v:= .iface 179 (.agg #[.int .i64 q,.int .i64 12]),recovered:=false }])):=by
 have c0:=hs.text;have c1:=hs.place;have fZ:=hs.lt;go_enter func220,ntmps220;go_wp2_with fail;refine(Dw b _ n cap q g _ (hs.alloc _) (ht.alloc _) (fun x hx=>by cases hx;exact ha) (by omega) hn).mono ?_;rintro e w1 ⟨rfl,r,hr,hs1,hg1⟩;have zD:=(ht.alloc _).grown hg1 (fun x hx=>by cases hx;exact ha);have hqr:q<r:=by
  rcases abk q r with h|h
  .exact h
  .have e:q=r:=acJ hr.lo h
   subst e;rw[hr.stop hq] at hd;cases hd
 have hrn:=hr.hi;have cell0:=(zD q hq).2;obtain⟨_,_,e,cq⟩:=cell0;cases e;have d0:=hs1.text;have d1:=hs1.place;have z0:w1.heap[w.heap.size]? =some (.cells #[.int .i64 0,.int .i64 0,.int .i64 0,.int .i64 0] 186 (0,0)):=by
  rw[hg1.block w.heap.size (by simp) (by simp;omega)];exact heap_alloc_new w _
 have HZ:=ζ z0;have HD:=ζ hd;have HT:=ζ ht;have Im:=ζ zD;clear z0 hd ht zD c0 c1;have i1:(q:Int)<=(r:Int):=by omega
 have i2:(r:Int)<=(cap:Int):=by omega
 have hg2:w.grownBy w1 (some b):=ct (abH w _ _) hg1;have dF:=ζ hg2;have gu:=ζ hg1;have HR:=ζ hr;have qy:=ζ hs1;clear hg2 hg1 hr hs1;by_cases hA:9<r-q
 .have j1:(9:Int)<((r-q:Nat):Int):=by omega
  go_wp2_with fail;go_quiet (fail);go_wp2;exact⟨rfl,r,HR.out,qy.out.drewN _,bD dF.out _,.inr ⟨.inl hA,rfl⟩⟩
 .have j1:((r-q:Nat):Int)<=9:=by omega
  have j1':decide ((9:Int)<((r-q:Nat):Int))=false:=by simp;omega
  by_cases hB:1<r-q
  .have j2:(1:Int)<((r-q:Nat):Int):=by omega
   by_cases hC:g q=48
   .have j3:(g q==48)=true:=by simp[hC]
    have HC:=ζ hC;clear hC;go_wp2_with fail;go_quiet (fail);go_wp2;exact⟨rfl,r,HR.out,qy.out.drewN _,bD dF.out _,.inr ⟨.inr ⟨hB,HC.out⟩,rfl⟩⟩
   .have j3:(g q==48)=false:=by simp[hC]
    have HN:=ζ (show ¬(9<r-q\/(1<r-q/\g q=48)) from fun h=>h.elim hA fun h=>hC h.2);clear hC;go_wp2_with fail;go_quiet (fail);go_wp2_with fail;have vd:∀i,i<r-q->48<=g (q+i)/\g (q+i)<=57:=fun i hi=>by
     have:=HR.out.all (q+i) (by omega) (by omega);simpa[Nu.isDigit] using this
    have V:=fun (k:Nat)=>vX (some ⟨tb,to+q,none⟩) (r-q) (cap-q) (fun i=>g (q+i)) (w1.drewN k) ((Im.out.drewN k).cut (by omega) (by omega)) (by omega) vd
    rw[Nu.pO] at V;have VH:=ζ V;clear V vd;have f0:∀i,w1.frozen? ⟨w.heap.size,i,none⟩=false:=fun i=>by simp[World.frozen?,HZ.out]
    have f1:∀i,i<4->w1.cell? ⟨w.heap.size,i,none⟩=some (.int .i64 0):=fun i hi=>by
     rcases(show i=0\/i=1\/i=2\/i=3 by omega) with rfl|rfl|rfl|rfl<;>simp[World.cell?,HZ.out]
    have g0:=f1 0 (by omega);have g1:=f1 1 (by omega);have g2:=f1 2 (by omega);have g3:=f1 3 (by omega)
    go_region_with (go_at_call 264;refine(VH.out _).mono ?_;rintro e w' ⟨rfl,rfl⟩)
    all_goals go_wp2
    all_goals
     refine bodyPost_ret (v:= .agg #[.int .i64 1,.int .i64 q,.int .i64 r,.int .i64 (Nu.val g q (r-q))]) (results_cell_row (p:=2) (ty:=186) results220 _ _ w.heap.size 186 _ (0,0) _ rfl (iX (w:=w1.drewN (nq+1)) HZ.out _ _ _ _) Tryz.underlying186 rfl (by kernel_rfl)) rfl ?_;exact⟨r,HR.out,(qy.out.drewN _).jK (by omega) _ _ _ _,eV (bD dF.out _) (aaD _) _ _ _ _,.inl ⟨HN.out,rfl⟩⟩
  .have j2:decide ((1:Int)<((r-q:Nat):Int))=false:=by simp;omega
   have HN:=ζ (show ¬(9<r-q\/(1<r-q/\g q=48)) from fun h=>h.elim hA fun h=>hB h.1);go_wp2_with fail;go_quiet (fail);go_wp2_with fail;have vd:∀i,i<r-q->48<=g (q+i)/\g (q+i)<=57:=fun i hi=>by
    have:=HR.out.all (q+i) (by omega) (by omega);simpa[Nu.isDigit] using this
   have V:=fun (k:Nat)=>vX (some ⟨tb,to+q,none⟩) (r-q) (cap-q) (fun i=>g (q+i)) (w1.drewN k) ((Im.out.drewN k).cut (by omega) (by omega)) (by omega) vd
   rw[Nu.pO] at V;have VH:=ζ V;clear V vd;have f0:∀i,w1.frozen? ⟨w.heap.size,i,none⟩=false:=fun i=>by simp[World.frozen?,HZ.out]
   have f1:∀i,i<4->w1.cell? ⟨w.heap.size,i,none⟩=some (.int .i64 0):=fun i hi=>by
    rcases(show i=0\/i=1\/i=2\/i=3 by omega) with rfl|rfl|rfl|rfl<;>simp[World.cell?,HZ.out]
   have g0:=f1 0 (by omega);have g1:=f1 1 (by omega);have g2:=f1 2 (by omega);have g3:=f1 3 (by omega)
   go_region_with (go_at_call 264;refine(VH.out _).mono ?_;rintro e w' ⟨rfl,rfl⟩)
   all_goals go_wp2
   all_goals
    refine bodyPost_ret (v:= .agg #[.int .i64 1,.int .i64 q,.int .i64 r,.int .i64 (Nu.val g q (r-q))]) (results_cell_row (p:=2) (ty:=186) results220 _ _ w.heap.size 186 _ (0,0) _ rfl (iX (w:=w1.drewN (nq+1)) HZ.out _ _ _ _) Tryz.underlying186 rfl (by kernel_rfl)) rfl ?_;exact⟨r,HR.out,(qy.out.drewN _).jK (by omega) _ _ _ _,eV (bD dF.out _) (aaD _) _ _ _ _,.inl ⟨HN.out,rfl⟩⟩
end
section
open Go.Proofs.Tryz
open Go.RowKit
def Ac (t:Nu.Tok):Value:= .agg #[.int .i64 t.kind,.int .i64 t.at',.int .i64 t.fin,.int .i64 t.num]
def rG (x:Nat×Int):Value:= .iface 179 (.agg #[.int .i64 x.1,.int .i64 x.2])
def Lf (b:Nat) (ao:Option Addr) (n cap p:Nat) (g:Nat->Int) (w:World) (e:Ending) (w':World):Prop:=
 w.grownBy w' (some b)/\((∃t p',Nu.next g n p= .ok (t,p')/\e= .returned (Ac t)/\cT w' b ao n cap p')\/(∃x,Nu.next g n p= .error x/\e= .panicked [{ v:=rG x,recovered:=false }]))
theorem Hi (x0 x1 x2 x3:Value) (W:World):(Instr.field 186 (.agg #[x0,x1,x2,x3]) 0).run prog W= .ok x0 W:=by kernel_rfl
theorem lA {fn:Func} {p:Tmp} (h:fn.results= #[.cell p 186]) (tmps:Array Value) (W:World) (B:Nat) (x0 x1 x2 x3:Value)
 (hp:tmps.getD p undef= .pointer (some ⟨B,0,none⟩)) (hg:W.heap[B]? =some (.cells #[x0,x1,x2,x3] 186 (0,0))):
 (results fn tmps).run prog W= .ok (.agg #[x0,x1,x2,x3]) W:=
 results_cell_row (p:=p) (ty:=186) h tmps W B 186 _ (0,0) _ hp hg Tryz.underlying186 rfl (by kernel_rfl)
theorem AB (b:Nat) (ao:Option Addr) (n cap p:Nat) (g:Nat->Int) (w:World) (hs:cT w b ao n cap p) (ht:aM w ao n g) (ha:Apart ao b) (hp:p<=n) (hn:n<=33554432) (hcap:n<=cap):
 Calls prog 153 #[.pointer (some ⟨b,0,none⟩)] w (Lf b ao n cap p g w):=by
 have fZ:=hs.lt;go_enter func153,ntmps153;go_wp2_with fail;refine(Dx b ao n cap p g _ (hs.alloc _) (ht.alloc _) ha hp hn).mono ?_;rintro e w1 ⟨rfl,q,hq,hs1,hg1⟩;have zD:=(ht.alloc _).grown hg1 ha;have z0:w1.heap[w.heap.size]? =some (.cells #[.int .i64 0,.int .i64 0,.int .i64 0,.int .i64 0] 186 (0,0)):=by
  rw[hg1.block w.heap.size (by simp) (by simp;omega)];exact heap_alloc_new w _
 have f0:∀i,w1.frozen? ⟨w.heap.size,i,none⟩=false:=fun i=>by simp[World.frozen?,z0]
 have g0:w1.cell? ⟨w.heap.size,0,none⟩=some (.int .i64 0):=by simp[World.cell?,z0]
 have g1:w1.cell? ⟨w.heap.size,1,none⟩=some (.int .i64 0):=by simp[World.cell?,z0]
 have g2:w1.cell? ⟨w.heap.size,2,none⟩=some (.int .i64 0):=by simp[World.cell?,z0]
 have g3:w1.cell? ⟨w.heap.size,3,none⟩=some (.int .i64 0):=by simp[World.cell?,z0]
 have d0:=hs1.text;have d1:=hs1.place;have fz:=hs1.free 1;have KA:=hq.hi;have hg2:w.grownBy w1 (some b):=ct (abH w _ _) hg1;have dF:=ζ hg2;have qy:=ζ hs1;have Im:=ζ zD;have HT:=ζ ht;have HZ:=ζ z0;have HQ:=ζ hq;clear hg2 hg1 hs1 zD ht z0 hq hs;by_cases hA:q=n
 .subst hA
  go_wp2_with fail;refine bodyPost_ret (v:=Ac ⟨3,q,q,0⟩) (lA (p:=2) results153 _ _ w.heap.size _ _ _ _ rfl (iX (w:=w1) HZ.out _ _ _ _)) rfl ?_;exact⟨eV dF.out (aaD _) _ _ _ _,.inl ⟨_,_,Nu.kQ HQ.out,rfl,qy.out.jK (by omega) _ _ _ _⟩⟩
 .have hlt:q<n:=by omega
  have j0:((q:Int)==(n:Int))=false:=by simp;omega
  have j1:(q:Int)<(n:Int):=by omega
  obtain⟨⟨b0,b1⟩,tb,to,rfl,cq⟩:=Im.out q hlt;cases hd:Nu.isDigit (g q)
  .by_cases h10:g q=10
   .have j2:(g q==10)=true:=by simp[h10]
    have ZO:=ζ h10;clear h10;go_wp2_with (go_at_call 219;refine(jr _ _).mono ?_;rintro e w' ⟨rfl,rfl⟩);have z3:=(heap_setCell_other w' ⟨b,1,none⟩ w.heap.size (.int .i64 ((q:Int)+1)) (by simp;omega)).trans HZ.out;refine bodyPost_ret (v:=Ac ⟨2,q,(q:Int)+1,0⟩) (lA (p:=2) results153 _ _ w.heap.size _ _ _ _ rfl (iX z3 _ _ _ _)) rfl ?_;exact⟨eV (grownBy_setCell dF.out 1 _) (aaD _) _ _ _ _,.inl ⟨_,_,Nu.iY HQ.out hlt ZO.out,rfl,(qy.out.set (q+1)).jK (by omega) _ _ _ _⟩⟩
   .have j2:(g q==10)=false:=by simp[h10]
    go_wp2_with (go_at_call 219;refine(jr _ _).mono ?_;rintro e w' ⟨rfl,rfl⟩);exact⟨rfl,dF.out,.inr ⟨(q,11),Nu.iZ HQ.out hlt hd h10,rfl⟩⟩
  .go_wp2_with (first|(go_at_call 219;refine(jr _ _).mono ?_;rintro e w' ⟨rfl,rfl⟩)|(go_at_call 220;refine(DG b tb to n cap q g _ qy.out Im.out (fun h=>ha _ rfl h) hlt hd hn hcap).mono ?_;refine aaH ?_))
   refine ζ ?_;rintro e w2 ⟨r,hr,hs2,hg3,hx⟩;have z2:w2.heap[w.heap.size]? =some (.cells #[.int .i64 0,.int .i64 0,.int .i64 0,.int .i64 0] 186 (0,0)):=by
    rw[hg3.block w.heap.size (lt_of_block HZ.out) (by simp;omega)];exact HZ.out
   rcases hx with ⟨hb,rfl⟩|⟨hb,rfl⟩
   .have HR:=ζ hr
    have zT:=ζ hs2;have kj:=ζ (ct dF.out hg3);have HB:=ζ hb;have YV:=ζ z2;clear g0 g1 g2 g3 f0 d0 d1 fz cq;have f0:∀i,w2.frozen? ⟨w.heap.size,i,none⟩=false:=fun i=>by simp[World.frozen?,z2]
    have g0:w2.cell? ⟨w.heap.size,0,none⟩=some (.int .i64 0):=by simp[World.cell?,z2]
    have g1:w2.cell? ⟨w.heap.size,1,none⟩=some (.int .i64 0):=by simp[World.cell?,z2]
    have g2:w2.cell? ⟨w.heap.size,2,none⟩=some (.int .i64 0):=by simp[World.cell?,z2]
    have g3:w2.cell? ⟨w.heap.size,3,none⟩=some (.int .i64 0):=by simp[World.cell?,z2]
    clear hr hs2 hg3 hb z2;go_wp2;refine bodyPost_ret (v:=Ac ⟨1,q,r,Nu.val g q (r-q)⟩) (lA (p:=2) results153 _ _ w.heap.size _ _ _ _ rfl (iX YV.out _ _ _ _)) rfl ?_;exact⟨eV kj.out (aaD _) _ _ _ _,.inl ⟨_,_,Nu.kP HQ.out hlt hd HR.out HB.out,rfl,zT.out.jK (by omega) _ _ _ _⟩⟩
   .exact⟨rfl,ct dF.out hg3,.inr ⟨(q,12),Nu.kS HQ.out hlt hd hr hb,rfl⟩⟩
end
section
open Go.RowKit
def IG (n:Nat) (g:Nat->Int) (w:World) (e:Ending) (w':World):Prop:=
 w.grownBy w' none/\((∃ts,Nu.scan g n= .ok ts/\e= .returned (.int .i64 ts.length))\/(∃x,Nu.scan g n= .error x/\e= .panicked [{ v:=rG x,recovered:=false }]))
theorem rF {w w1 w2:World} {b:Nat} (h:w.grownBy w1 none) (hb:w.heap.size<=b) (k:w1.grownBy w2 (some b)):w.grownBy w2 none:=
 ⟨k.os.trans h.os,k.tape.trans h.tape,k.output.trans h.output,aaM h.size k.size,fun i hi _=>(k.block i (aa0 hi h.size) (by simp;omega)).trans (h.block i hi (by simp))⟩
theorem E4 (ao:Option Addr) (n cap:Nat) (g:Nat->Int) (w:World) (ht:aM w ao n g) (ha:Apart ao w.heap.size) (hn:n<=33554432) (hcap:n<=cap):
 Calls Tryz.prog 107 #[.slice ao n cap] w (IG n g w):=by
 have hft:=Hi;go_enter Tryz.func107,Tryz.ntmps107;go_wp2;go_loopw [4] (fun c wr=>∃(ts:List Nu.Tok) (p k:Nat),p<=n/\n-p<k/\ts.length<=p/\Nu.scan g n=Nu.pre ts (Nu.b7 g n k p)/\c= .int .i64 (ts.length+1:Nat)/\cT wr w.heap.size ao n cap p/\w.grownBy wr none) (fun _ wr=>n-posOf wr w.heap.size)
 case atStart=>
  refine⟨[],0,n+1,aaL _,by omega,aaD _,(Nu.pre_nil _).symm,rfl,?_,abH _ _ _⟩;exact heap_alloc_new w _
 case round=>
  obtain⟨ts,p,k,hp,hk,hl,sQ,rfl,hs,hg⟩:=hrel;obtain⟨k,rfl⟩:∃k',k=k'+1:=⟨k-1,by omega⟩;have FA:=ζ sQ;have HT:=ζ ht;have Wv:=ζ hs.pos;clear sQ ht;go_wp2_with (go_at_call 153;refine(AB w.heap.size ao n cap p g _ hs (HT.out.vI hg) ha hp hn hcap).mono ?_;refine aaH ?_);refine ζ ?_;rintro e w1 ⟨hg1,hx⟩;have HG:=ζ (rF hg (aaD _) hg1);rcases hx with ⟨t,p',oU,rfl,hs1⟩|⟨x,oU,rfl⟩
  .have hm:=Nu.gM hp oU
   have hf:=Nu.xd hp oU;have qy:=ζ hs1;have lp:=ζ oU;clear oU hs1 hg hg1 hs;unfold Ac;by_cases h3:t.kind=3
   .have j3:(t.kind != 3)=false:=by simp[h3]
    have H3:=ζ h3;clear h3;go_wp2;go_ret;refine⟨HG.out,.inl ⟨ts++[t],?_,by simp⟩⟩;rw[FA.out,Nu.gH k lp.out H3.out];rfl
   .have j3:(t.kind != 3)=true:=by simp[h3]
    have hp':=hm.2 h3;have H3:=ζ h3;clear h3;go_wp2;go_roundw
    case rel=>
     refine⟨ts++[t],p',k,hm.1,by omega,by simp;omega,?_,by simp,qy.out,HG.out⟩;rw[FA.out,Nu.gG k lp.out H3.out,Nu.LP]
    case measure=>
     have e1:=qy.out.pos;have e2:posOf wr w.heap.size=p:=Wv.out;rw[e1,e2];omega
  .refine⟨rfl,HG.out,.inr ⟨x,?_,rfl⟩⟩
   rw[FA.out,Nu.fG k oU];rfl
end
section
open Go.RowKit
theorem Tryz.Mp:(Tryz.prog.info? 186).map (fun i=>(i.zero,i.size,i.bytes))=some (some (.agg #[.int .i64 0,.int .i64 0,.int .i64 0,.int .i64 0]),4,32):=by kernel_rfl
def A9 (arr:Array Value) (us:List Nu.Tok):Prop:=
 ∀j t,us[j]? =some t->arr[j*4]? =some (.int .i64 t.kind)/\arr[j*4+1]? =some (.int .i64 t.at')/\arr[j*4+2]? =some (.int .i64 t.fin)/\arr[j*4+3]? =some (.int .i64 t.num)
def eX (W:World) (T m:Nat) (us:List Nu.Tok):Prop:=
 ∃arr,W.heap[T]? =some (.cells arr 186 (0,0))/\arr.size=m*4/\A9 arr us
def lB (w:World) (B o:Nat) (a b c d:Value):World:=(((w.setCell ⟨B,o,none⟩ a).setCell ⟨B,o+1,none⟩ b).setCell ⟨B,o+2,none⟩ c).setCell ⟨B,o+3,none⟩ d
theorem pF {w:World} {B k:Nat} (hk:k≠B) (o:Nat) (a b c d:Value):(lB w B o a b c d).heap[k]? =w.heap[k]? :=by
 unfold lB;rw[heap_setCell_other _ ⟨B,o+3,none⟩ k d hk,heap_setCell_other _ ⟨B,o+2,none⟩ k c hk,heap_setCell_other _ ⟨B,o+1,none⟩ k b hk,heap_setCell_other _ ⟨B,o,none⟩ k a hk]
theorem BD (w:World) (B o:Nat) (a b c d:Value):(lB w B o a b c d).heap.size=w.heap.size:=by simp[lB]
theorem BF {w:World} {B:Nat} {t:TypeId} {arr:Array Value} (h:w.heap[B]? =some (.cells arr t (0,0))) (o:Nat) (a b c d:Value):
 (lB w B o a b c d).heap[B]? =some (.cells ((((arr.setIfInBounds o a).setIfInBounds (o+1) b).setIfInBounds (o+2) c).setIfInBounds (o+3) d) t (0,0)):=by
 have h1:=heap_setCell_same w B o _ t a h;have h2:=heap_setCell_same _ B (o+1) _ t b h1;have h3:=heap_setCell_same _ B (o+2) _ t c h2;exact heap_setCell_same _ B (o+3) _ t d h3
theorem eX.push {w:World} {T m:Nat} {arr:Array Value} {us:List Nu.Tok} (har:w.heap[T]? =some (.cells arr 186 (0,0))) (hsz:arr.size=m*4) (hac:A9 arr us) (hlt:us.length<m) (t:Nu.Tok):
 eX (lB w T (us.length*4) (.int .i64 t.kind) (.int .i64 t.at') (.int .i64 t.fin) (.int .i64 t.num)) T m (us++[t]):=by
 refine⟨_,BF har _ _ _ _ _,by simpa using hsz,fun j u hj=> ?_⟩;by_cases hlt':j<us.length
 .rw[aaU hlt'] at hj
  obtain⟨h0,h1,h2,h3⟩:=hac j u hj;refine⟨?_,?_,?_,?_⟩
  all_goals
   rw[aa5 (by omega),aa5 (by omega),aa5 (by omega),aa5 (by omega)]
   assumption
 .have hj':j=us.length:=by
   have h:=(aaF.1 hj).1;simp at h;omega
  subst hj';simp at hj;subst hj;refine⟨?_,?_,?_,?_⟩
  .rw[aa5 (by omega),aa5 (by omega),aa5 (by omega),abE (by omega)]
  .rw[aa5 (by omega),aa5 (by omega),abE (by simp;omega)]
  .rw[aa5 (by omega),abE (by simp;omega)]
  .rw[abE (by simp;omega)]
theorem vr {w0 w:World} {r:Option Nat} (h:w0.grownBy w r) {B:Nat} (hB:w0.heap.size<=B) (o:Nat) (x0 x1 x2 x3:Value):w0.grownBy (lB w B o x0 x1 x2 x3) r:=
 ⟨h.os,h.tape,h.output,by rw[BD];exact h.size,fun k hk hne=>(pF (by omega) o x0 x1 x2 x3).trans (h.block k hk hne)⟩
theorem EI (ao:Option Addr) (n cap:Nat) (g:Nat->Int) (ts:List Nu.Tok) (w:World) (ht:aM w ao n g) (ha:Apart ao w.heap.size) (hn:n<=33554432) (hcap:n<=cap) (sQ:Nu.scan g n= .ok ts):
 Calls Tryz.prog 106 #[.slice ao n cap,.int .i64 ts.length] w fun e w'=>
  ∃T,e= .returned (.slice (some ⟨T,0,none⟩) ts.length ts.length)/\w.heap.size<=T/\eX w' T ts.length ts/\w.grownBy w' none:=by
 have hlen:=Nu.qK sQ;obtain⟨i0,hi,hz0,hz1,hz2⟩:=info_parts Tryz.Mp;have FA:=ζ sQ;have HT:=ζ ht;clear sQ ht;go_enter Tryz.func106,Tryz.ntmps106;go_wp2_with (at_make;refine wpList_make_full _ rfl _ _ 124 rfl w.heap.size 186 i0 (.agg #[.int .i64 0,.int .i64 0,.int .i64 0,.int .i64 0]) 4 Tryz.underlying124 hi hz0 hz1 .i64 .i64 _ _ ts.length rfl rfl rfl rfl (by rw[hz2];omega) (by unfold maxLen;omega) (by simp) ?_;intro w1 hown hgrow;refine aaH ?_);refine ζ ?_;have hT:(w.alloc (.cells #[.slice ao n cap,.int .i64 0] 254)).heap.size=w.heap.size+1:=by simp
 rw[hT] at hown;have hrow:eX w1 (w.heap.size+1) ts.length []:=by
  rcases hown.2 with ⟨h,_⟩|⟨gb,c,cur,e,_,hh,_,_,hsz,_⟩
  .cases h
  .cases e
   exact⟨cur,hh,hsz,fun j t h=>by simp at h⟩
 have hs1:cT w1 w.heap.size ao n cap 0:=cT.kept (r:=none) (heap_alloc_new w _) hgrow (by simp);have hg1:w.grownBy w1 none:=ct (abH w _ none) hgrow;have gu:=ζ hg1;have qy:=ζ hs1;have HR:=ζ hrow;clear hg1 hs1 hrow hown hgrow hT;go_wp2;go_loopw [14] (fun c wr=>∃(us vs:List Nu.Tok) (p k:Nat),ts=us++vs/\p<=n/\Nu.b7 g n k p= .ok vs/\c= .int .i64 us.length/\cT wr w.heap.size ao n cap p/\eX wr (w.heap.size+1) ts.length us/\w.grownBy wr none) (fun c _=>ts.length-(intOf c).toNat)
 case atStart=>exact⟨[],ts,0,n+1,rfl,aaL _,FA.out,rfl,qy.out,HR.out,gu.out⟩
 case round=>
  obtain⟨us,vs,p,k,hts,hp,RN,rfl,hs,hr,hg⟩:=hrel;have hl:ts.length=us.length+vs.length:=by rw[hts];simp
  cases vs with
  |nil=>
   have hd:¬((us.length:Int)<(ts.length:Int)):=by simp at hl;omega
   have yQ:=ζ hts;clear hts hl RN;go_wp2;go_ret;have e:=yQ.out;rw[abp] at e;subst e;exact⟨_,rfl,by omega,hr,hg⟩
  |cons t vs=>
   have hlt:(us.length:Int)<(ts.length:Int):=by simp at hl;omega
   have hle:us.length<ts.length:=by simp at hl;omega
   obtain⟨p',oU,hp',k',Qd⟩:=Nu.Dd hp RN;have yQ:=ζ hts;have lp:=ζ oU;have Y9:=ζ Qd;have yS:=ζ hr;have HG:=ζ hg;clear hts hl RN oU Qd hr hg;go_wp2_with (go_at_call 153;refine(AB w.heap.size ao n cap p g _ hs (HT.out.vI HG.out) ha hp hn hcap).mono ?_;refine aaH ?_);refine ζ ?_;rintro e w2 ⟨hg2,hx⟩;rcases hx with ⟨t2,p2,Eg,rfl,hs2⟩|⟨x,Eg,rfl⟩
   .rw[lp.out] at Eg
    cases Eg;obtain⟨arr,har,Vx,hac⟩:=yS.out;have Jm:w2.heap[w.heap.size+1]? =some (.cells arr 186 (0,0)):=(hg2.block _ (lt_of_block har) (by simp)).trans har;have dF:=ζ (rF HG.out (aaD _) hg2);have zT:=ζ hs2;have ZM:=ζ Jm;have ZN:=ζ hac;have f0:∀i,w2.frozen? ⟨w.heap.size+1,i,none⟩=false:=fun i=>by simp[World.frozen?,Jm]
    have hc:∀i,i<ts.length*4->∃v,w2.cell? ⟨w.heap.size+1,i,none⟩=some v:=fun i hi=>⟨arr[i]'(by omega),by rw[cell_of_row w2 _ i arr _ _ Jm];simp⟩
    obtain⟨v0,c0⟩:=hc (us.length*4) (by omega);obtain⟨v1,c1⟩:=hc (us.length*4+1) (by omega);obtain⟨v2,c2⟩:=hc (us.length*4+2) (by omega);obtain⟨v3,c3⟩:=hc (us.length*4+3) (by omega);clear hg2 hs2 Jm hac hc har hs;unfold Ac;go_wp2;go_roundw
    case rel=>
     refine⟨us++[t],vs,p',k',by rw[yQ.out];simp,hp',Y9.out,by simp,?_,?_,?_⟩
     .exact(pF (w:=w2) (by omega) (us.length*4) _ _ _ _).trans zT.out
     .exact eX.push ZM.out Vx ZN.out hle t
     .exact vr dF.out (by omega) (us.length*4) _ _ _ _
    case measure=>simp[intOf];omega
   .rw[lp.out] at Eg
    cases Eg
end
section
open Go.Proofs.Tryz
open Go.RowKit
theorem Fk (p q r:Addr) (w:World):
 CallsD prog 105 #[.pointer (some p),.pointer (some q),.pointer (some r)] .returning w fun e u' w'=>e= .returned (.tuple #[])/\u'= .returning/\w'=w:=by
 refine callsD_of_wpS func105 rfl fun c₀ cs hu=> ?_
 apply wpS_seq;apply wpS_region;simp[wpOpsS,go_sem,recoverD,hu,ntmps105,Exit.thenS];refine wpS_of_wp ?_;go_wp2;cases c₀
 simp_all[bodyPostS,results,results105]
structure nJ (w:World) (A:Nat) (s:Value) (at' code:Int):Prop where
 toks:w.heap[A]? =some (.cells #[s] 124 (0,0))
 place:w.heap[A+1]? =some (.cells #[.int .i64 at'] 3 (0,0))
 code:w.heap[A+2]? =some (.cells #[.int .i64 code] 29 (0,0))
def kL (w:World) (A:Nat) (s:Value) (a c:Int):World:=((w.setCell ⟨A,0,none⟩ s).setCell ⟨A+1,0,none⟩ (.int .i64 a)).setCell ⟨A+2,0,none⟩ (.int .i64 c)
theorem nJ.kL {w:World} {A:Nat} {s s':Value} {a c a' c':Int} (h:nJ w A s a c):nJ (kL w A s' a' c') A s' a' c':=by
 refine⟨?_,?_,?_⟩
 .unfold Go.Proofs.YtdbjpbjocmcpkaaGreatDoor.kL
  rw[heap_setCell_other _ ⟨A+2,0,none⟩ A _ (by simp),heap_setCell_other _ ⟨A+1,0,none⟩ A _ (by simp)];exact one_setCell h.toks
 .unfold Go.Proofs.YtdbjpbjocmcpkaaGreatDoor.kL
  rw[heap_setCell_other _ ⟨A+2,0,none⟩ (A+1) _ (by simp)];refine one_setCell (v:= .int .i64 a) ?_;rw[heap_setCell_other _ ⟨A,0,none⟩ (A+1) _ (by simp)];exact h.place
 .unfold Go.Proofs.YtdbjpbjocmcpkaaGreatDoor.kL
  refine one_setCell (v:= .int .i64 c) ?_;rw[heap_setCell_other _ ⟨A+1,0,none⟩ (A+2) _ (by simp),heap_setCell_other _ ⟨A,0,none⟩ (A+2) _ (by simp)];exact h.code
theorem tX (w:World) (A:Nat) (s:Value) (a c:Int) (k:Nat) (hk:k<A\/A+2<k):(kL w A s a c).heap[k]? =w.heap[k]? :=by
 unfold kL;rw[heap_setCell_other _ ⟨A+2,0,none⟩ k _ (by simp;omega),heap_setCell_other _ ⟨A+1,0,none⟩ k _ (by simp;omega),heap_setCell_other _ ⟨A,0,none⟩ k _ (by simp;omega)]
theorem wO (w:World) (A:Nat) (s:Value) (a c:Int):(kL w A s a c).heap.size=w.heap.size:=by simp[kL]
theorem tY (w:World) (A:Nat) (s:Value) (a c:Int):Below A w (kL w A s a c):=
 ⟨rfl,rfl,rfl,by rw[wO];exact aaD _,fun k hk=>tX w A s a c k (.inl hk)⟩
theorem nJ.alloc {w:World} {A:Nat} {s:Value} {a c:Int} (h:nJ w A s a c) (o:Obj):nJ (w.alloc o) A s a c:=
 ⟨(aaO w o A (lt_of_block h.toks)).trans h.toks,(aaO w o (A+1) (lt_of_block h.place)).trans h.place,(aaO w o (A+2) (lt_of_block h.code)).trans h.code⟩
theorem nJ.drew {w:World} {A:Nat} {s:Value} {a c:Int} (h:nJ w A s a c):nJ w.drew A s a c:=⟨h.toks,h.place,h.code⟩
theorem nJ.grown {w w':World} {A:Nat} {s:Value} {a c:Int} (h:nJ w A s a c) (hg:w.grownBy w' none):nJ w' A s a c:=
 ⟨(hg.block A (lt_of_block h.toks) (by simp)).trans h.toks,(hg.block (A+1) (lt_of_block h.place) (by simp)).trans h.place,(hg.block (A+2) (lt_of_block h.code) (by simp)).trans h.code⟩
theorem Cv (A:Nat) (s:Value) (a c:Int) (x:Nat×Int) (w:World) (hr:nJ w A s a c):
 CallsD prog 105 #[.pointer (some ⟨A,0,none⟩),.pointer (some ⟨A+1,0,none⟩),.pointer (some ⟨A+2,0,none⟩)] (.panicking [{ v:=rG x,recovered:=false }]) w fun e u' w'=>
  e= .returned (.tuple #[])/\u'= .panicking [{ v:=rG x,recovered:=true }]/\nJ w' A (.slice none 0 0) x.1 x.2/\Below A w w':=by
 have c0:=cell_of_one hr.toks;have c1:=cell_of_one hr.place;have c2:=cell_of_one hr.code;have f0:=free_of_one hr.toks;have f1:=free_of_one hr.place;have f2:=free_of_one hr.code;have l2:=lt_of_block hr.code;have l1:=lt_of_block hr.place;have l0:=lt_of_block hr.toks;have Mt:∀(v:Value) (w:World),(Instr.typeAssert (.iface 179 v) 20 179 true).run prog w= .ok (.tuple #[v,.bool true]) w:=fun _ _=>by kernel_rfl
 refine callsD_of_wpS func105 rfl fun c₀ cs hu=> ?_
 unfold rG at hu ⊢;apply wpS_seq;apply wpS_region;simp[wpOpsS,go_sem,recoverD,hu,ntmps105,Exit.thenS,Array.replicate];refine wpS_of_wp ?_;have HR:=ζ hr;clear hr;go_wp2
 go_region
 go_wp2;exact⟨rfl,_,rfl,.tuple #[],by simp[results,results105],rfl,rfl,(HR.out.kL (s':= .slice none 0 0) (a':=x.1) (c':=x.2)).alloc _ |>.drew,(tY w A (.slice none 0 0) x.1 x.2).trans (((aaE A _).alloc (by rw[wO];omega) _).drew)⟩
end
section
open Go.Proofs.Tryz
open Go.RowKit
def Lb (n:Nat) (g:Nat->Int) (w:World) (e:Ending) (w':World):Prop:=
 Below w.heap.size w w'/\
 ((33554432<n/\e= .returned (.tuple #[.slice none 0 0,.int .i64 33554432,.int .i64 10]))\/
  (n<=33554432/\∃x,Nu.scan g n= .error x/\e= .returned (.tuple #[.slice none 0 0,.int .i64 x.1,.int .i64 x.2]))\/
  (n<=33554432/\∃ts T,Nu.scan g n= .ok ts/\e= .returned (.tuple #[.slice (some ⟨T,0,none⟩) ts.length ts.length,.int .i64 0,.int .i64 0])/\w.heap.size<=T/\eX w' T ts.length ts))
theorem mF {w w':World} (h:w.grownBy w' none):Below w.heap.size w w':=⟨h.os,h.tape,h.output,h.size,fun k hk=>h.block k hk (by simp)⟩
theorem Dk (w:World) (s:Value) (a c:Int):nJ (((w.alloc (.cells #[s] 124)).alloc (.cells #[.int .i64 a] 3)).alloc (.cells #[.int .i64 c] 29)) w.heap.size s a c:=by
 refine⟨?_,?_,?_⟩
 .rw[aaO _ _ _ (by simp;omega),aaO _ _ _ (by simp)]
  exact heap_alloc_new w _
 .rw[aaO _ _ _ (by simp)]
  have:=heap_alloc_new (w.alloc (.cells #[s] 124)) (.cells #[.int .i64 a] 3);simpa using this
 .have:=heap_alloc_new ((w.alloc (.cells #[s] 124)).alloc (.cells #[.int .i64 a] 3)) (.cells #[.int .i64 c] 29)
  simpa using this
theorem j5 (tmps:Array Value) (W:World) (A:Nat) (s:Value) (a c:Int) (h2:tmps.getD 2 undef= .pointer (some ⟨A,0,none⟩)) (h3:tmps.getD 3 undef= .pointer (some ⟨A+1,0,none⟩)) (h4:tmps.getD 4 undef= .pointer (some ⟨A+2,0,none⟩)) (hr:nJ W A s a c):
 (results Tryz.f67 tmps).run prog W= .ok (.tuple #[s,.int .i64 a,.int .i64 c]) W:=by
 have c0:=cell_of_one hr.toks;have c1:=cell_of_one hr.place;have c2:=cell_of_one hr.code;have k2:tmps[2]?.getD undef= .pointer (some ⟨A,0,none⟩):=by simpa using h2
 have k3:tmps[3]?.getD undef= .pointer (some ⟨A+1,0,none⟩):=by simpa using h3
 have k4:tmps[4]?.getD undef= .pointer (some ⟨A+2,0,none⟩):=by simpa using h4
 simp[results,results67,go_sem,k2,k3,k4,c0,c1,c2]
theorem JV (ao:Option Addr) (n cap:Nat) (g:Nat->Int) (w:World) (ht:aM w ao n g) (hao:∀x,ao=some x->x.block<w.heap.size) (hn:n<=maxLen) (hcap:n<=cap):
 Calls prog 67 #[.slice ao n cap] w (Lb n g w):=by
 unfold maxLen at hn;have RU:∀(fn:Fn) (first cap:Array Value) (w:World),(Instr.makeFunc fn first cap).run prog w= .ok (.func fn first cap) w:=fun _ _ _ _=>rfl
 by_cases hA:33554432<n
 .have j0:(33554432:Int)<(n:Int):=by omega
  go_enter_defers func67,ntmps67
  go_wp2;have hres:nJ (((w.alloc (.cells #[.slice none 0 0] 124)).alloc (.cells #[.int .i64 33554432] 3)).alloc (.cells #[.int .i64 10] 29)) w.heap.size (.slice none 0 0) 33554432 10:=Dk w _ _ _;refine⟨_,j5 _ _ w.heap.size _ _ _ rfl rfl rfl hres,?_,.inl ⟨hA,rfl⟩⟩;exact(((aaE _ _).alloc (aaD _) _).alloc (by simp) _).alloc (by simp;omega) _
 .have j0:¬((33554432:Int)<(n:Int)):=by omega
  go_enter_defers func67,ntmps67
  have hres:=Dk w (.slice none 0 0) 0 0;have hg0:w.grownBy (((w.alloc (.cells #[.slice none 0 0] 124)).alloc (.cells #[.int .i64 0] 3)).alloc (.cells #[.int .i64 0] 29)) none:=ig (ig (abH w _ none) _) _;have Mu:=ht.vI hg0;have hsz:(((w.alloc (.cells #[.slice none 0 0] 124)).alloc (.cells #[.int .i64 0] 3)).alloc (.cells #[.int .i64 0] 29)).heap.size=w.heap.size+3:=by simp
  have HS:=ζ hsz;have vB:=ζ hg0;have PN:=ζ Mu;have Ba:=ζ hres;clear hsz hg0 Mu hres ht;go_wp2_with fail;refine(E4 ao n cap g _ PN.out (fun x hx=>by rw[HS.out];have:=hao x hx;omega) (by omega) hcap).mono ?_;rintro e w1 ⟨hg1,hx⟩;have GN:=Ba.out.grown hg1;have hb1:Below w.heap.size w w1:=mF (ct vB.out hg1);have hs1:w.heap.size+3<=w1.heap.size:=by rw[<-HS.out];exact hg1.size
  rcases hx with ⟨ts,hsc,rfl⟩|⟨x,hsc,rfl⟩
  .have zD:=PN.out.vI hg1
   have Im:=ζ zD;have yT:=ζ GN;have aN:=ζ hb1;have FA:=ζ hsc;clear zD GN hb1 hg1 hsc;go_wp2_with (go_at_call 106;refine(EI ao n cap g ts _ Im.out (fun x hx=>by have:=hao x hx;omega) (by omega) hcap FA.out).mono ?_;refine aaH ?_);refine ζ ?_;rintro e w2 ⟨T,rfl,hT,hrow,hg2⟩;have hres2:=yT.out.grown hg2;have c0:=cell_of_one hres2.toks;have c1:=cell_of_one hres2.place;have c2:=cell_of_one hres2.code;have f0:=free_of_one hres2.toks;have f1:=free_of_one hres2.place;have f2:=free_of_one hres2.code;have FB:=ζ hres2;have bM:=ζ hrow;have aC:=ζ (aN.out.trans ((mF hg2).mono (by omega)));clear hres2 hrow hg2;go_wp2;have hput:eX (kL w2 w.heap.size (.slice (some ⟨T,0,none⟩) ts.length ts.length) 0 0) T ts.length ts:=by
    obtain⟨arr,h1,h2⟩:=bM.out;exact⟨arr,(tX _ _ _ _ _ T (.inr (by omega))).trans h1,h2⟩
   refine leaves_cons (f:=105) (args:= #[.pointer (some ⟨w.heap.size,0,none⟩),.pointer (some ⟨w.heap.size+1,0,none⟩),.pointer (some ⟨w.heap.size+1+1,0,none⟩)]) (by simp) (by simp[go_sem]) ?_;refine(Fk _ _ _ _).mono ?_;rintro e u' w3 ⟨rfl,rfl,rfl⟩;exact⟨_,j5 _ _ w.heap.size _ _ _ rfl rfl rfl (FB.out.kL (s':= .slice (some ⟨T,0,none⟩) ts.length ts.length) (a':=0) (c':=0)),aC.out.trans (tY _ _ _ _ _),.inr (.inr ⟨by omega,ts,T,FA.out,rfl,by omega,hput⟩)⟩
  .refine leaves_cons (f:=105) (args:= #[.pointer (some ⟨w.heap.size,0,none⟩),.pointer (some ⟨w.heap.size+1,0,none⟩),.pointer (some ⟨w.heap.size+1+1,0,none⟩)]) (by simp) (by simp[go_sem]) ?_
   refine(Cv w.heap.size _ _ _ x w1 GN).mono ?_;rintro e u' w3 ⟨rfl,rfl,GM,hb3⟩;exact⟨_,j5 _ _ w.heap.size _ _ _ rfl rfl rfl GM,hb1.trans hb3,.inr (.inl ⟨by omega,x,hsc,rfl⟩)⟩
end
end Go.Proofs.YtdbjpbjocmcpkaaGreatDoor
