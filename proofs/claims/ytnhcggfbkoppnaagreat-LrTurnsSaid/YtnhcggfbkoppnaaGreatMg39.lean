import Derived.Test.YtnhcggfbkoppnaaGreatMg38
import Derived.Test.YtnhcggfbkoppnaaGreatMg33
import Derived.Test.YtnhcggfbkoppnaaGreatMg23
import Derived.Test.YtnhcggfbkoppnaaGreatMg22
import Derived.Laws.AppendOwnNone
namespace Go.Proofs.YtnhcggfbkoppnaaGreat
section
open Go.RowKit Go.Shelf Lt
attribute [local go_sem] Oper.semAt_some
namespace Lt
theorem zG {l:List Int×List Int} {x:Nat} {r:List Int×List Int} (h:tell l x=some r):∃(y:Nat) (a b:Int),x<l.1.length∧x<l.2.length∧y<l.2.length∧l.1[x]? =some (y:Int)∧l.2[x]? =some a∧l.2[y]? =some b∧r=(l.1.set x (-1),l.2.set x (a*b)):=by
 unfold tell at h
 cases h1:bz l.1 (x:Int) with
 |none=>rw[h1] at h;cases h
 |some y=>
  rw[h1] at h
  dsimp only at h
  cases h2:bz l.2 (x:Int) with
  |none=>rw[h2] at h;cases h
  |some a=>
   cases h3:bz l.2 y with
   |none=>rw[h2,h3] at h;cases h
   |some b=>
    obtain⟨k1,e1,q1,p1⟩:=pY h1
    obtain⟨k2,e2,q2,p2⟩:=pY h2
    obtain⟨k3,rfl,q3,p3⟩:=pY h3
    obtain rfl:k1=x:=by omega
    obtain rfl:k2=k1:=by omega
    rw[h2,h3,mq q1] at h
    dsimp only at h
    rw[mq q2] at h
    exact⟨k3,a,b,q1,q2,q3,p1,p2,p3,(Option.some.inj h).symm⟩
theorem tS:∀{ws:List Nat} {l r:List Int×List Int},fX l ws=some r→r.1.length=l.1.length∧r.2.length=l.2.length
 |[],l,r,h=>by cases h;exact⟨rfl,rfl⟩
 |x::ws,l,r,h=>by
  unfold fX at h
  obtain⟨q,h1,h2⟩:=Option.bind_eq_some_iff.1 h
  obtain⟨y,a,b,_,_,_,_,_,_,rfl⟩:=zG h2
  have:=tS h1
  simpa using this
def Pm (u:List Int):Prop:=∀(z:Nat) (x:Int),u[z]? =some x→x=1∨x= -1
theorem Pm.tell {l r:List Int×List Int} {x:Nat} (h:Pm l.2) (ht:tell l x=some r):Pm r.2:=by
 obtain⟨y,a,b,_,h2,_,_,ha,hb,rfl⟩:=zG ht
 intro z v hz
 dsimp only at hz
 rw[List.getElem?_set] at hz
 by_cases e:x=z
 ·subst e
  rw[if_pos rfl,if_pos h2] at hz
  cases hz
  rcases h _ _ ha with rfl|rfl<;>rcases h _ _ hb with rfl|rfl<;>simp
 ·rw[if_neg e] at hz
  exact h z v hz
theorem Pm.fX:∀{ws:List Nat} {l r:List Int×List Int},Pm l.2→fX l ws=some r→Pm r.2
 |[],l,r,h,hb=>by cases hb;exact h
 |x::ws,l,r,h,hb=>by
  unfold Lt.fX at hb
  obtain⟨q,h1,h2⟩:=Option.bind_eq_some_iff.1 hb
  exact(Pm.fX h h1).tell h2
theorem yc {l r:List Int×List Int}:∀{ws:List Nat},fX l ws=some r→∀i,∃q,fX l (ws.drop i)=some q
 |ws,h,0=>⟨r,h⟩
 |[],h,i+1=>⟨r,h⟩
 |x::ws,h,i+1=>by
  unfold Lt.fX at h
  obtain⟨q,h1,h2⟩:=Option.bind_eq_some_iff.1 h
  rw[List.drop_succ_cons]
  exact yc h1 i
end Lt
def sLen:Value→Nat
 | .slice _ n _=>n
 |_=>0
section
variable {c:Wp} {p t:Nat} {W0 W:World} {O:Nat→Prop} {st:TS} {L U Z:Nat} {vp vw:Value}
theorem dV.keep {α:Type} {T:TypeId} {k:Nat} {fl:α→List Value} {w w':World} {B:Nat} {v:Value} {l:List α} (h:dV T k fl w B v l) (hb:∀g o,v.ownBlock=some g→w.heap[g]? =some o→o.isCells=true→w'.heap[g]? =some o):dV T k fl w' B v l:=by
 refine⟨h.1,?_⟩
 rcases h.2 with h|⟨g,cap,cur,e1,hgB,hh,hr⟩
 ·exact .inl h
 ·exact .inr ⟨g,cap,cur,e1,hgB,hb g _ (by rw[e1];rfl) hh rfl,hr⟩
theorem aQ.YE (h:aQ c p t W0 O st L U Z vp vw W) {X:World} {l u:List Int} (hb:Below W0.heap.size W0 X) (hs:W.heap.size≤X.heap.size) (hk:∀b o,W.heap[b]? =some o→o.isCells=true→b≠L→b≠U→X.heap[b]? =some o) (h1:aq X L l) (h2:aq X U u) (l1:l.length=c.es.length) (l2:u.length=c.es.length):aQ c p t W0 O { st with like:=l,turn:=u } L U Z vp vw X:=by
 obtain⟨a1,a2,a3,a4,a5,a6⟩:=h.n1
 exact⟨h.wk,hb,hk _ _ h.blk rfl a1 a2,h1,h2,hk _ _ h.lowest rfl (Ne.symm a5) (Ne.symm a6),l1,l2,h.lz,h.qC.keep fun g o hg ho hc=>hk g o ho hc (h.n2 g hg).2.1 (h.n2 g hg).2.2.1,h.way.keep fun g o hg ho hc=>hk g o ho hc (h.n3 g hg).2.1 (h.n3 g hg).2.2.1,h.oT,h.oL,h.oU,h.oZ,h.oP,h.oW,h.oB,fun b hb'=>Nat.lt_of_lt_of_le (h.oX b hb') hs,h.n1,h.n2,h.n3,h.n4⟩
def rj (c:Wp) (p t:Nat) (W0:World) (O:Nat→Prop) (st:TS) (L U Z:Nat) (vp vw:Value) (W:World) (r:List Int×List Int) (x:Nat) (e:Ending) (w':World):Prop:=
 (∃z,r.2[x]? =some z∧e= .returned (.int .i64 z))∧(bE W0.heap.size (fun b=>b=L∨b=U) W w'∧W.heap.size≤w'.heap.size)∧aQ c p t W0 O { st with like:=r.1,turn:=r.2 } L U Z vp vw w'
set_option maxRecDepth 100000 in
set_option maxHeartbeats 16000000 in
theorem Ji (h:aQ c p t W0 O st L U Z vp vw W) (Qj:Pm st.turn) {k e:Nat} (he:e<c.es.length) {r:List Int×List Int} (hr:Lt.side k st.like st.turn (e:Int)=some r):Calls Tryz.prog 89 #[.pointer (some ⟨t,1,none⟩),.int .i64 (e:Int)] W (rj c p t W0 O st L U Z vp vw W r e):=by
 obtain⟨ws,hw,hbk⟩:=vY hr
 have cq:=h.wk.val.few
 have hwl:=hw.len
 rw[h.ll] at hwl
 obtain⟨W1,hW1⟩:∃W1,W1=W.alloc (.cells #[.pointer (some ⟨t,1,none⟩)] 172):=⟨_,rfl⟩
 have hb1:Below W.heap.size W W1:=by rw[hW1];exact(Below.refl _ _).alloc (Nat.le_refl _) _
 have hs1:W1.heap.size=W.heap.size+1:=by rw[hW1];simp
 have bx:Boxed W1 W.heap.size 172 (.pointer (some ⟨t,1,none⟩)):=by rw[hW1];exact heap_alloc_new W _
 have h1:=h.later hb1
 have x0:=bx.cell
 have x1:=h1.cells.2.1
 have jS:=Nu.hid h
 have eN:=Nu.hid h1
 have jR:=Nu.hid hW1
 have aV:=Nu.hid hb1
 have HWY:=Nu.hid hw
 have xx:=Nu.hid hbk
 have S5:=Nu.hid Qj
 have jP:=Nu.hid bx
 have Lh:=Nu.hid hs1
 clear h h1 hr hw hbk Qj bx hb1 hs1 hW1
 refine(callsIn_wide (n:=9)).1 ?_
 refine callsIn_of_wp_marks Tryz.func89 rfl trivial ?_ rfl
 simp only[Tryz.ntmps89,List.size_toArray,List.length_cons,List.length_nil,Nat.reduceAdd,Nat.reduceSub,Array.replicate_succ,Array.replicate_zero,List.push_toArray,List.append_toArray,List.nil_append,List.cons_append]
 refine wpIn_wide.2 ?_
 go_wp2_with fail
 rw[←jR.out]
 go_loopw [5,6] (fun wv xv wr=>∃(dn rs:List Nat) (x:Int),xv= .int .i64 x∧ws=dn++rs∧Wy st.like rs x∧aS wr W1.heap.size wv (dn.map fun z:Nat=>(z:Int))∧Below W1.heap.size W1 wr) (fun wv _ _=>ws.length-sLen wv)
 case atStart=>exact⟨[],ws,_,rfl,rfl,HWY.out,aS.nil _ _,Below.refl _ _⟩
 case round=>
  obtain⟨dn,rs,x,rfl,PR,Ay,hown,hbr⟩:=hrel
  obtain⟨ao,cap,rfl,hat,-⟩:=hown.form
  rw[List.length_map] at hown ⊢
  have hl:=congrArg List.length PR
  rw[List.length_append] at hl
  obtain⟨y,hy1,hy2⟩:∃y,bz st.like x=some y∧((rs=[]∧y= -1)∨∃z rs',rs=z::rs'∧x=(z:Int)∧y≠-1∧Wy st.like rs' y):=by
   cases rs with
   |nil=>exact⟨-1,Ay,.inl ⟨rfl,rfl⟩⟩
   |cons z rs'=>
    obtain⟨e1,y,e2,e3,e4⟩:=Ay
    exact⟨y,e2,.inr ⟨z,rs',rfl,e1,e3,e4⟩⟩
  obtain⟨a,rfl,ha1,ha2⟩:=pY hy1
  have k7:a<c.es.length:=by rw[←jS.out.ll];exact ha1
  have hT:=eN.out.later hbr
  have z0:=(show Boxed wr W.heap.size 172 (.pointer (some ⟨t,1,none⟩)) from(hbr.block _ jP.out.lt).trans jP.out).cell
  have z1:=hT.cells.2.1
  have z2:wr.cell? ⟨L,a,none⟩=some (.int .i64 y):=hT.like.cell ha2
  have i0:(0:Int)≤(a:Int):=by omega
  have i1:(a:Int)<(c.es.length:Int):=by omega
  have yl:=Nu.hid hown
  have jy:=Nu.hid hbr
  have I2:=Nu.hid hat
  have VS:=Nu.hid ha2
  rcases hy2 with ⟨P8,hy⟩|⟨z,rs',P8,hz,hy,Wn⟩
  ·subst P8
   subst hy
   rw[List.append_nil] at PR
   subst PR
   have TE:Hid (∀X,Calls Tryz.prog 69 #[.slice ao ws.length cap] X (oQ ao ws.length cap X)):=fun X=>kD _ _ _ X
   clear hown hbr hat hT Ay hy1 ha1 ha2 hl
   go_wp2_with (go_at_call 69;refine(TE.out _).mono ?_;rintro e1 V1 ⟨Bs,rfl,tJ,bs,hb1⟩)
   have hs1:=hb1.size
   have hsr:=jy.out.size
   have hS1:=Lh.out
   have hB1:Below W1.heap.size W1 V1:=jy.out.trans (hb1.mono hsr)
   have hT:=eN.out.later hB1
   have hLW:L<W.heap.size:=jS.out.oX L jS.out.oL
   have hUW:U<W.heap.size:=jS.out.oX U jS.out.oU
   have htW:t<W.heap.size:=jS.out.oX t jS.out.oT
   have RA:W0.heap.size≤L:=jS.out.oB L jS.out.oL
   have hU0:W0.heap.size≤U:=jS.out.oB U jS.out.oU
   have Uk:W0.heap.size≤W.heap.size:=jS.out.aI.size
   obtain⟨n1,n2,n3,n4,n5,n6⟩:=hT.n1
   obtain⟨zs,hzs⟩:∃zs:List Int,zs=ws.map fun z:Nat=>(z:Int):=⟨_,rfl⟩
   have HZ:Hid (∀i (h:i<ws.length),zs[i]? =some ((ws[i]:Nat):Int)∧Df.at_ zs i=((ws[i]:Nat):Int)):=fun i h=>by
    have h1:zs[i]? =some ((ws[i]:Nat):Int):=by rw[hzs,List.getElem?_map,List.getElem?_eq_getElem h];rfl
    refine⟨h1,?_⟩
    unfold Df.at_
    rw[List.getD_eq_getElem?_getD,h1]
    rfl
   have OC:Hid (aS wr W1.heap.size (.slice ao ws.length cap) zs):=by rw[hzs];exact yl.out
   have hzl:zs.length=ws.length:=by rw[hzs];simp
   clear hzs
   have hcs:∀i,i<ws.length→∃b o,ao=some ⟨b,o,none⟩∧∀X,bE W0.heap.size (fun b=>b=L∨b=U) V1 X→X.cell? ⟨b,o+i,none⟩=some (.int .i64 (Df.at_ zs i)):=fun i hi=>by
    obtain⟨hli,hat⟩:=HZ.out i hi
    have ho1:=OC.out.later hb1
    obtain⟨mP,cap',ev,hin,hblk⟩:=ho1.form
    obtain⟨b,o,e1,hcell⟩:=hin i _ hli
    rw[e1] at ev hblk
    have:=hblk _ rfl
    rw[hzl] at ev
    refine⟨b,o,by cases ev;rfl,fun X hX=> ?_⟩
    rw[hat]
    exact hX.cell hcell (by dsimp only at this ⊢;omega)
   refine(wpIn_wide (n:=9)).1 ?_
   refine rV (n:=9) (gf:=101) (lb:= #[.pointer (some ⟨Bs,0,none⟩)]) (by rfl) (enters_of Tryz.func101 (by kernel_rfl) rfl)
    (wZ Bs W0.heap.size cap ws.length (fun b=>b=L∨b=U) ao zs (by omega) V1 (by omega) bs hcs (by omega)) (by omega) (fun _=>rfl)
    (fun pre X=>(∃A1 A2,aq X L A1∧aq X U A2∧fX (st.like,st.turn) (ws.drop (ws.length-pre.length))=some (A1,A2))∧bE W0.heap.size (fun b=>b=L∨b=U) V1 X) (fun _ _ _=>False)
    (OwnFrom.and (pE _ L U (fun (pre:List Nat) A1 A2=>fX (st.like,st.turn) (ws.drop (ws.length-pre.length))=some (A1,A2))) (bE.own (by omega) (by omega))) (fun _ _ _ _ _ hs _ _=>hs)
    ⟨⟨_,_,hT.like,hT.turn,by rw[List.length_nil,Nat.sub_zero,List.drop_length];rfl⟩,bE.refl _ _ _⟩
    (fun x a' _=>a'={ tmps:= #[.pointer (some ⟨t,1,none⟩),.int .i64 (e:Int),.pointer (some ⟨W.heap.size,0,none⟩),undef,.int .i64 0,.slice ao ws.length cap,.int .i64 (a:Int),undef,.int .i64 (Df.at_ zs x),.int .i64 (e:Int),.pointer (some ⟨t,1,none⟩),.pointer (some ⟨t,1,none⟩),.pointer (some ⟨t,1,none⟩),.slice (some ⟨L,0,none⟩) c.es.length c.es.length,.int .i64 (a:Int),.pointer (some ⟨L,a,none⟩),.int .i64 (-1),.bool false,u18,u19,u20,u21,u22,u23,u24,u25,u26,u27,u28,.slice ao ws.length cap,.func (.func 101) #[] #[.pointer (some ⟨Bs,0,none⟩)],.int .i64 (x:Int),.int .i64 (Df.at_ zs x),undef,undef,undef,undef,undef,undef,undef,undef,undef,undef,undef,undef,undef,undef,undef,undef,undef,undef,undef,undef,undef,undef,undef,undef,undef,undef,undef,undef,undef,undef,undef,undef,undef,undef,undef],defers:=[] })
    (fun x a'=>ownFrom_pure _ _) ?assign ?body ?done ?stop
   case assign=>
    intro l pre x X K _ hi hK
    gi_wp2
    exact hK _ _ (KeepsFrom.refl _ _) (bE.refl _ _ _) hi rfl
   case body=>
    rintro l pre x0 a' C ⟨hl,-⟩-hpx ⟨⟨A1,A2,i1,i2,hbk⟩,hkp⟩ rfl
    obtain⟨hpl,uQ⟩:=pU hpx
    have hx0:x0<ws.length:=by omega
    obtain⟨x,hx⟩:∃x:Nat,x=ws[x0]:=⟨_,rfl⟩
    have Xs:Df.at_ zs x0=(x:Int):=by rw[(HZ.out x0 hx0).2,hx]
    rw[Xs]
    have hdr:ws.drop (ws.length-(pre++[x0]).length)=x::ws.drop (ws.length-pre.length):=by
     rw[List.length_append,List.length_singleton,show ws.length-(pre.length+1)=x0 by omega,List.drop_eq_getElem_cons hx0,←hx,show x0+1=ws.length-pre.length by omega]
    obtain⟨q,hq⟩:=yc xx.out (ws.length-(pre++[x0]).length)
    have yB:=hq
    rw[hdr] at hq
    unfold Lt.fX at hq
    rw[hbk] at hq
    have AB:tell (A1,A2) x=some q:=hq
    obtain⟨y,za,zb,w1,w2,w3,w4,w5,w6,rfl⟩:=zG AB
    have hlen:=tS hbk
    dsimp only at w1 w2 w3 w4 w5 w6 hlen
    rw[jS.out.ll,jS.out.lu] at hlen
    have WO:Pm A2:=S5.out.fX hbk
    have hwr:IntKind.i64.wrap (za*zb)=za*zb:=by
     rcases WO _ _ w5 with rfl|rfl<;>rcases WO _ _ w6 with rfl|rfl<;>rfl
    have hCs:V1.heap.size≤C.heap.size:=hkp.1.size
    have bC:Boxed C W.heap.size 172 (.pointer (some ⟨t,1,none⟩)):=hkp.boxed ((hB1.block _ jP.out.lt).trans jP.out) (by omega)
    have tC:=hkp.2 _ _ hT.blk rfl (by omega)
    have kb:C.drew.cell? ⟨W.heap.size,0,none⟩=some (.pointer (some ⟨t,1,none⟩)):=bC.cell
    have k1:C.drew.cell? ⟨t,1,none⟩=some (.slice (some ⟨L,0,none⟩) c.es.length c.es.length):=by
     show C.cell? _=_
     simp[World.cell?,tC]
    have k2:C.drew.cell? ⟨t,2,none⟩=some (.slice (some ⟨U,0,none⟩) c.es.length c.es.length):=by
     show C.cell? _=_
     simp[World.cell?,tC]
    have k3:C.drew.cell? ⟨U,x,none⟩=some (.int .i64 za):=i2.cell w5
    have k4:C.drew.cell? ⟨L,x,none⟩=some (.int .i64 (y:Int)):=i1.cell w4
    have k5:C.drew.cell? ⟨U,y,none⟩=some (.int .i64 zb):=i2.cell w6
    have k6:C.drew.frozen? ⟨U,x,none⟩=false:=i2.free x
    have i0:(0:Int)≤(x:Int):=by omega
    have Za:(x:Int)<(c.es.length:Int):=by omega
    have j0:(0:Int)≤(y:Int):=by omega
    have j1:(y:Int)<(c.es.length:Int):=by omega
    have HPX:Hid (fX (st.like,st.turn) (ws.drop (ws.length-(pre++[x0]).length))=some (A1.set x (-1),A2.set x (za*zb))):=yB
    have mX:=Nu.hid i1
    have fY:=Nu.hid i2
    have nV:=Nu.hid hkp
    have Lj:=Nu.hid hlen
    clear uQ hx Xs hdr hq yB AB hbk w1 w2 w3 w4 w5 w6 i1 i2 hkp hlen
    gi_wp2
    refine wpIn_region_any (by kernel_rfl) ?_
    refine aj.BI (fun ix=>match ix with|0=> .pointer (some ⟨t,1,none⟩)|1=> .pointer (some ⟨t,1,none⟩)|2=> .pointer (some ⟨t,2,none⟩)|3=> .slice (some ⟨U,0,none⟩) c.es.length c.es.length|4=> .int .i64 (x:Int)|5=> .pointer (some ⟨U,x,none⟩)|6=> .int .i64 za|7=> .pointer (some ⟨t,1,none⟩)|8=> .pointer (some ⟨t,1,none⟩)|9=> .pointer (some ⟨t,2,none⟩)|10=> .slice (some ⟨U,0,none⟩) c.es.length c.es.length|11=> .pointer (some ⟨t,1,none⟩)|12=> .pointer (some ⟨t,1,none⟩)|13=> .pointer (some ⟨t,1,none⟩)|14=> .slice (some ⟨L,0,none⟩) c.es.length c.es.length|15=> .int .i64 (x:Int)|16=> .pointer (some ⟨L,x,none⟩)|17=> .int .i64 (y:Int)|18=> .pointer (some ⟨U,y,none⟩)|19=> .int .i64 zb|20=> .int .i64 (za*zb)|21=> .pointer (some ⟨U,x,none⟩)|_=>undef) (AnyM.bG C.drew [(22,C.drew.setCell ⟨U,x,none⟩ (.int .i64 (za*zb)))]) 68 rfl (by kernel_rfl) (by kernel_rfl) rfl ?_ ?_
    ·intro ix o' Ls V ev ho bO hC bU hdc aA aR kW iQ
     have hc:ix=0∨ix=1∨ix=2∨ix=3∨ix=4∨ix=5∨ix=6∨ix=7∨ix=8∨ix=9∨ix=10∨ix=11∨ix=12∨ix=13∨ix=14∨ix=15∨ix=16∨ix=17∨ix=18∨ix=19∨ix=20∨ix=21∨ix=22:=by
      have:ix<23:=(Array.getElem?_eq_some_iff.1 ho).1
      omega
     have hst:Ls 22=false:=by
      cases h:Ls 22 with
      |false=>rfl
      |true=>
       exfalso
       have hq:Ls ix=true:=by
        rcases hc with rfl|rfl|rfl|rfl|rfl|rfl|rfl|rfl|rfl|rfl|rfl|rfl|rfl|rfl|rfl|rfl|rfl|rfl|rfl|rfl|rfl|rfl|rfl
        ·exact hdc 22 _ rfl h ⟨0,.phase⟩ (by simp) rfl
        ·exact hdc 22 _ rfl h ⟨1,.phase⟩ (by simp) rfl
        ·exact hdc 22 _ rfl h ⟨2,.phase⟩ (by simp) rfl
        ·exact hdc 22 _ rfl h ⟨3,.phase⟩ (by simp) rfl
        ·exact hdc 22 _ rfl h ⟨4,.phase⟩ (by simp) rfl
        ·exact hdc 22 _ rfl h ⟨5,.phase⟩ (by simp) rfl
        ·exact hdc 22 _ rfl h ⟨6,.phase⟩ (by simp) rfl
        ·exact hdc 22 _ rfl h ⟨7,.phase⟩ (by simp) rfl
        ·exact hdc 22 _ rfl h ⟨8,.phase⟩ (by simp) rfl
        ·exact hdc 22 _ rfl h ⟨9,.phase⟩ (by simp) rfl
        ·exact hdc 22 _ rfl h ⟨10,.phase⟩ (by simp) rfl
        ·exact hdc 22 _ rfl h ⟨11,.phase⟩ (by simp) rfl
        ·exact hdc 22 _ rfl h ⟨12,.phase⟩ (by simp) rfl
        ·exact hdc 22 _ rfl h ⟨13,.phase⟩ (by simp) rfl
        ·exact hdc 22 _ rfl h ⟨14,.phase⟩ (by simp) rfl
        ·exact hdc 22 _ rfl h ⟨15,.phase⟩ (by simp) rfl
        ·exact hdc 22 _ rfl h ⟨16,.phase⟩ (by simp) rfl
        ·exact hdc 22 _ rfl h ⟨17,.phase⟩ (by simp) rfl
        ·exact hdc 22 _ rfl h ⟨18,.phase⟩ (by simp) rfl
        ·exact hdc 22 _ rfl h ⟨19,.phase⟩ (by simp) rfl
        ·exact hdc 22 _ rfl h ⟨20,.data⟩ (by simp) rfl
        ·exact hdc 22 _ rfl h ⟨21,.data⟩ (by simp) rfl
        ·exact h
       rw[bO] at hq
       cases hq
     have hV:V=C.drew:=by
      simp only[AnyM.bG,hst,Bool.false_eq_true,if_false] at hC
      exact hC
     subst hV
     rcases hc with rfl|rfl|rfl|rfl|rfl|rfl|rfl|rfl|rfl|rfl|rfl|rfl|rfl|rfl|rfl|rfl|rfl|rfl|rfl|rfl|rfl|rfl|rfl<;>obtain rfl:=Option.some.inj ho
     ·have e1:ev (.tmp 2)= .pointer (some ⟨W.heap.size,0,none⟩):=aR 2 (by kernel_rfl)
      exact aj.ah (v:= .pointer (some ⟨t,1,none⟩)) (w':=_) (by simp[execOp,go_sem,e1,kb]) ⟨rfl,AnyM.other rfl hC⟩
     ·have e1:ev (.tmp 33)= .pointer (some ⟨t,1,none⟩):=aA 0 33 (by omega) rfl (by decide)
      exact aj.ah (v:= .pointer (some ⟨t,1,none⟩)) (w':=_) (by simp[execOp,go_sem,e1]) ⟨rfl,AnyM.other rfl hC⟩
     ·have e1:ev (.tmp 34)= .pointer (some ⟨t,1,none⟩):=aA 1 34 (by omega) rfl (by decide)
      exact aj.ah (v:= .pointer (some ⟨t,2,none⟩)) (w':=_) (by simp[execOp,go_sem,e1]) ⟨rfl,AnyM.other rfl hC⟩
     ·have e1:ev (.tmp 35)= .pointer (some ⟨t,2,none⟩):=aA 2 35 (by omega) rfl (by decide)
      exact aj.ah (v:= .slice (some ⟨U,0,none⟩) c.es.length c.es.length) (w':=_) (by simp[execOp,go_sem,e1,k2]) ⟨rfl,AnyM.other rfl hC⟩
     ·have e1:ev (.tmp 8)= .int .i64 (x:Int):=aR 8 (by kernel_rfl)
      exact aj.ah (v:= .int .i64 (x:Int)) (w':=_) (by simp[execOp,go_sem,e1]) ⟨rfl,AnyM.other rfl hC⟩
     ·have e1:ev (.tmp 36)= .slice (some ⟨U,0,none⟩) c.es.length c.es.length:=aA 3 36 (by omega) rfl (by decide)
      have e2:ev (.tmp 37)= .int .i64 (x:Int):=aA 4 37 (by omega) rfl (by decide)
      exact aj.ah (v:= .pointer (some ⟨U,x,none⟩)) (w':=_) (by simp[execOp,go_sem,e1,e2,i0,Za]) ⟨rfl,AnyM.other rfl hC⟩
     ·have e1:ev (.tmp 38)= .pointer (some ⟨U,x,none⟩):=aA 5 38 (by omega) rfl (by decide)
      exact aj.ah (v:= .int .i64 za) (w':=_) (by simp[execOp,go_sem,e1,k3]) ⟨rfl,AnyM.other rfl hC⟩
     ·have e1:ev (.tmp 2)= .pointer (some ⟨W.heap.size,0,none⟩):=aR 2 (by kernel_rfl)
      exact aj.ah (v:= .pointer (some ⟨t,1,none⟩)) (w':=_) (by simp[execOp,go_sem,e1,kb]) ⟨rfl,AnyM.other rfl hC⟩
     ·have e1:ev (.tmp 40)= .pointer (some ⟨t,1,none⟩):=aA 7 40 (by omega) rfl (by decide)
      exact aj.ah (v:= .pointer (some ⟨t,1,none⟩)) (w':=_) (by simp[execOp,go_sem,e1]) ⟨rfl,AnyM.other rfl hC⟩
     ·have e1:ev (.tmp 41)= .pointer (some ⟨t,1,none⟩):=aA 8 41 (by omega) rfl (by decide)
      exact aj.ah (v:= .pointer (some ⟨t,2,none⟩)) (w':=_) (by simp[execOp,go_sem,e1]) ⟨rfl,AnyM.other rfl hC⟩
     ·have e1:ev (.tmp 42)= .pointer (some ⟨t,2,none⟩):=aA 9 42 (by omega) rfl (by decide)
      exact aj.ah (v:= .slice (some ⟨U,0,none⟩) c.es.length c.es.length) (w':=_) (by simp[execOp,go_sem,e1,k2]) ⟨rfl,AnyM.other rfl hC⟩
     ·have e1:ev (.tmp 2)= .pointer (some ⟨W.heap.size,0,none⟩):=aR 2 (by kernel_rfl)
      exact aj.ah (v:= .pointer (some ⟨t,1,none⟩)) (w':=_) (by simp[execOp,go_sem,e1,kb]) ⟨rfl,AnyM.other rfl hC⟩
     ·have e1:ev (.tmp 44)= .pointer (some ⟨t,1,none⟩):=aA 11 44 (by omega) rfl (by decide)
      exact aj.ah (v:= .pointer (some ⟨t,1,none⟩)) (w':=_) (by simp[execOp,go_sem,e1]) ⟨rfl,AnyM.other rfl hC⟩
     ·have e1:ev (.tmp 45)= .pointer (some ⟨t,1,none⟩):=aA 12 45 (by omega) rfl (by decide)
      exact aj.ah (v:= .pointer (some ⟨t,1,none⟩)) (w':=_) (by simp[execOp,go_sem,e1]) ⟨rfl,AnyM.other rfl hC⟩
     ·have e1:ev (.tmp 46)= .pointer (some ⟨t,1,none⟩):=aA 13 46 (by omega) rfl (by decide)
      exact aj.ah (v:= .slice (some ⟨L,0,none⟩) c.es.length c.es.length) (w':=_) (by simp[execOp,go_sem,e1,k1]) ⟨rfl,AnyM.other rfl hC⟩
     ·have e1:ev (.tmp 8)= .int .i64 (x:Int):=aR 8 (by kernel_rfl)
      exact aj.ah (v:= .int .i64 (x:Int)) (w':=_) (by simp[execOp,go_sem,e1]) ⟨rfl,AnyM.other rfl hC⟩
     ·have e1:ev (.tmp 47)= .slice (some ⟨L,0,none⟩) c.es.length c.es.length:=aA 14 47 (by omega) rfl (by decide)
      have e2:ev (.tmp 48)= .int .i64 (x:Int):=aA 15 48 (by omega) rfl (by decide)
      exact aj.ah (v:= .pointer (some ⟨L,x,none⟩)) (w':=_) (by simp[execOp,go_sem,e1,e2,i0,Za]) ⟨rfl,AnyM.other rfl hC⟩
     ·have e1:ev (.tmp 49)= .pointer (some ⟨L,x,none⟩):=aA 16 49 (by omega) rfl (by decide)
      exact aj.ah (v:= .int .i64 (y:Int)) (w':=_) (by simp[execOp,go_sem,e1,k4]) ⟨rfl,AnyM.other rfl hC⟩
     ·have e1:ev (.tmp 43)= .slice (some ⟨U,0,none⟩) c.es.length c.es.length:=aA 10 43 (by omega) rfl (by decide)
      have e2:ev (.tmp 50)= .int .i64 (y:Int):=aA 17 50 (by omega) rfl (by decide)
      exact aj.ah (v:= .pointer (some ⟨U,y,none⟩)) (w':=_) (by simp[execOp,go_sem,e1,e2,j0,j1]) ⟨rfl,AnyM.other rfl hC⟩
     ·have e1:ev (.tmp 51)= .pointer (some ⟨U,y,none⟩):=aA 18 51 (by omega) rfl (by decide)
      exact aj.ah (v:= .int .i64 zb) (w':=_) (by simp[execOp,go_sem,e1,k5]) ⟨rfl,AnyM.other rfl hC⟩
     ·have e1:ev (.tmp 39)= .int .i64 za:=aA 6 39 (by omega) rfl (by decide)
      have e2:ev (.tmp 52)= .int .i64 zb:=aA 19 52 (by omega) rfl (by decide)
      exact aj.ah (v:= .int .i64 (za*zb)) (w':=_) (by simp[execOp,go_sem,e1,e2,hwr]) ⟨rfl,AnyM.other rfl hC⟩
     ·have e1:ev (.tmp 36)= .slice (some ⟨U,0,none⟩) c.es.length c.es.length:=aA 3 36 (by omega) rfl (by decide)
      have e2:ev (.tmp 37)= .int .i64 (x:Int):=aA 4 37 (by omega) rfl (by decide)
      exact aj.ah (v:= .pointer (some ⟨U,x,none⟩)) (w':=_) (by simp[execOp,go_sem,e1,e2,i0,Za]) ⟨rfl,AnyM.other rfl hC⟩
     ·have e1:ev (.tmp 54)= .pointer (some ⟨U,x,none⟩):=aA 21 54 (by omega) rfl (by decide)
      have e2:ev (.tmp 53)= .int .i64 (za*zb):=aA 20 53 (by omega) rfl (by decide)
      refine aj.bF (w':=C.drew.setCell ⟨U,x,none⟩ (.int .i64 (za*zb))) (by simp[execOp,go_sem,e1,e2,k3,k6]) ⟨rfl,?_⟩
      simp[AnyM.bG,aj.bQ]
    ·intro Ls V hall hC
     unfold AnyM.bG at hC
     rw[if_pos (hall 22 (by decide))] at hC
     subst hC
     have AA:aF (fun b=>b=L∨b=U) C (C.drew.setCell ⟨U,x,none⟩ (.int .i64 (za*zb))):=(aF.refl _ _).drew.setCell (b:=U) (i:=x) (.inr rfl) _
     have iU:aq (C.drew.setCell ⟨U,x,none⟩ (.int .i64 (za*zb))) U (A2.set x (za*zb)):=(show aq C.drew U A2 from fY.out).set x _
     have iL:aq (C.drew.setCell ⟨U,x,none⟩ (.int .i64 (za*zb))) L A1:=(show aq C.drew L A1 from mX.out).aK n4 _
     have kb':=(show Boxed (C.drew.setCell ⟨U,x,none⟩ (.int .i64 (za*zb))) W.heap.size 172 (.pointer (some ⟨t,1,none⟩)) from(AA.block _ bC.lt (by omega)).trans bC).cell
     have tX:=(AA.block _ (lt_of_block tC) (by omega)).trans tC
     have PE:(C.drew.setCell ⟨U,x,none⟩ (.int .i64 (za*zb))).cell? ⟨t,1,none⟩=some (.slice (some ⟨L,0,none⟩) c.es.length c.es.length):=by simp[World.cell?,tX]
     clear kb k1 k2 k3 k4 k5 k6 hall tX
     generalize C.drew.setCell ⟨U,x,none⟩ (.int .i64 (za*zb))=X1 at AA iU iL kb' PE ⊢
     obtain⟨zl,Wj⟩:∃zl,A1[x]? =some zl:=⟨_,List.getElem?_eq_getElem (by have:=Lj.out;omega)⟩
     have k4':X1.cell? ⟨L,x,none⟩=some (.int .i64 zl):=iL.cell Wj
     have k6':X1.frozen? ⟨L,x,none⟩=false:=iL.free x
     have rD:Hid (KeepsFrom V1.heap.size C (X1.setCell ⟨L,x,none⟩ (.int .i64 (-1)))∧bE W0.heap.size (fun b=>b=L∨b=U) C (X1.setCell ⟨L,x,none⟩ (.int .i64 (-1)))∧∃B1 B2,aq (X1.setCell ⟨L,x,none⟩ (.int .i64 (-1))) L B1∧aq (X1.setCell ⟨L,x,none⟩ (.int .i64 (-1))) U B2∧fX (st.like,st.turn) (ws.drop (ws.length-(pre++[x0]).length))=some (B1,B2)):=by
      have hw2:=AA.setCell (b:=L) (i:=x) (.inl rfl) (.int .i64 (-1))
      exact⟨fR hw2 (fun b hb=>by rcases hb with rfl|rfl<;>omega),dR (n₀:=W0.heap.size) hw2 (by omega) (fun b hb=>by rcases hb with rfl|rfl<;>omega),_,_,iL.set x _,iU.aK (Ne.symm n4) _,HPX.out⟩
     clear AA iU iL Wj
     simp only[aj.canon,aj.dst,Array.size,List.length_cons,List.length_nil]
     simp[Act.put]
     gi_wp2
     obtain⟨f1,f2,f3⟩:=rD.out
     exact⟨f1,f2,f3,nV.out.trans f2⟩
   case done=>
    rintro Dd X hD ⟨⟨A1,A2,i1,i2,hbk⟩,tG⟩ hK
    rw[jg,Nat.sub_self,List.drop_zero,xx.out] at hbk
    obtain rfl:r=(A1,A2):=Option.some.inj hbk
    have sk:=tS xx.out
    dsimp only at sk
    rw[jS.out.ll,jS.out.lu] at sk
    obtain⟨z,hz⟩:∃z,A2[e]? =some z:=⟨_,List.getElem?_eq_getElem (by omega)⟩
    have UJ:V1.heap.size≤X.heap.size:=tG.1.size
    have c0:=(tG.boxed (show Boxed V1 W.heap.size 172 (.pointer (some ⟨t,1,none⟩)) from(hB1.block _ jP.out.lt).trans jP.out) (by omega)).cell
    have tX:=tG.2 _ _ hT.blk rfl (by omega)
    have c2:X.cell? ⟨t,2,none⟩=some (.slice (some ⟨U,0,none⟩) c.es.length c.es.length):=by simp[World.cell?,tX]
    have c3:X.cell? ⟨U,e,none⟩=some (.int .i64 z):=i2.cell hz
    have e0:(0:Int)≤(e:Int):=by omega
    have e1:(e:Int)<(c.es.length:Int):=by omega
    have UN:Below W.heap.size W V1:=aV.out.trans (hB1.mono (by omega))
    have hY:bE W0.heap.size (fun b=>b=L∨b=U) X (X.putObj Dd (.deferred none)):=bE.put (A:=V1) (by omega) hD hK rfl rfl
    have UM:bE W0.heap.size (fun b=>b=L∨b=U) W (X.putObj Dd (.deferred none)):=(((bE.refl _ _ _).grow UN (by omega)).trans tG).trans hY
    have HSP:Hid (rj c p t W0 O st L U Z vp vw W (A1,A2) e (.returned (.int .i64 z)) (X.putObj Dd (.deferred none))):=by
     have hsz:(X.putObj Dd (.deferred none)).heap.size=X.heap.size:=by simp[World.putObj]
     refine⟨⟨z,hz,rfl⟩,⟨UM,by omega⟩,jS.out.YE (jS.out.aI.trans UM.1) (by omega) (fun b o ho hc n1 n2=>UM.2 b o ho hc (fun q=>q.elim n1 n2)) ?_ ?_ sk.1 sk.2⟩
     ·exact(World.putObj_heap_other (by omega)).trans i1
     ·exact(World.putObj_heap_other (by omega)).trans i2
    have HK:=Nu.hid hK
    clear i1 i2 tG tX hY UM hK sk hbk
    go_wp2
    refine⟨by simp,.inl ⟨_,_,rfl,run_takeDeferred HK.out,?_⟩⟩
    refine⟨_,results_tmp rfl _ _ _,?_⟩
    exact HSP.out
   case stop=>
    rintro Dd c pre W _ _ hx _
    exact hx.elim
  ·have hyb:(y== -1)=false:=by simp only[beq_eq_false_iff_ne,ne_eq];exact hy
   have fB:Hid (ws=(dn++[a])++rs'∧Wy st.like rs' y):=by
    obtain rfl:z=a:=by omega
    refine⟨?_,Wn⟩
    rw[PR,P8,List.append_assoc]
    rfl
   have qT:dn.length≤c.es.length:=by omega
   have yR:Hid (dn.length<ws.length):=by show _<_;rw[hl,P8,List.length_cons];omega
   have UG:=hbr.size
   clear hown hbr hat hT Ay Wn PR P8 hy hy1 ha1 ha2 hz hl
   go_wp2_with (at_builtin;refine Eo rfl _ _ rfl wr W1.heap.size (.slice ao dn.length cap) (dn.map fun z:Nat=>(z:Int)) (a:Int) yl.out UG (by rw[List.length_map];omega) rfl rfl ?_;refine Hid.out ?_)
   refine Nu.hid ?_
   intro v' w5 Kj hg5 adU hb5
   have z0:=(show Boxed w5 W.heap.size 172 (.pointer (some ⟨t,1,none⟩)) from((jy.out.trans hb5).block _ jP.out.lt).trans jP.out).cell
   have ZV:=eN.out.later (jy.out.trans hb5)
   have z1:=ZV.cells.2.1
   have z2:w5.cell? ⟨L,a,none⟩=some (.int .i64 y):=ZV.like.cell VS.out
   have HO5:=Nu.hid Kj
   have gj:=Nu.hid (jy.out.trans hb5)
   obtain⟨ao5,akd,rfl,-,-⟩:=Kj.form
   clear Kj hg5 adU hb5 ZV
   go_wp2_with fail
   go_roundw
   case rel=>
    refine⟨dn++[a],rs',y,rfl,fB.out.1,fB.out.2,?_,gj.out⟩
    rw[List.map_append]
    exact HO5.out
   case measure=>
    have:=yR.out
    simp[sLen]
    omega
end
end
section
open Go.RowKit Lt
namespace Lt
def told (m:Nat) (d:List Int):List Int:=d++List.replicate (m-d.length) 0
theorem MT {m:Nat} {d:List Int} (h:d.length≤m):(told m d).length=m:=by unfold told;simp;omega
theorem Jk {m:Nat} {d:List Int} (h:d.length<m):told m d=told m (d++[0]):=by
 unfold told
 rw[List.append_assoc,List.length_append,List.length_singleton]
 congr 1
 rw[show m-d.length=(m-(d.length+1))+1 by omega,List.replicate_succ]
 rfl
theorem MS {m:Nat} {d:List Int} (h:d.length<m) (z:Int):(told m d).set d.length z=told m (d++[z]):=by
 unfold told
 rw[List.append_assoc,List.length_append,List.length_singleton,List.set_append_right _ _ (Nat.le_refl _),Nat.sub_self]
 congr 1
 rw[show m-d.length=(m-(d.length+1))+1 by omega,List.replicate_succ]
 rfl
theorem F8 {E:Env} {k:Nat} {h:Int} {hs like turn d res:List Int} (hq:sides E k (h::hs) like turn d=some res):∃b,back? E h=some b∧((b=false∧sides E k hs like turn (d++[0])=some res)∨(b=true∧∃r z,side k like turn (d.length:Int)=some r∧r.2[d.length]? =some z∧sides E k hs r.1 r.2 (d++[z])=some res)):=by
 unfold sides at hq
 cases hb:back? E h with
 |none=>rw[hb] at hq;cases hq
 |some b=>
  rw[hb] at hq
  cases b with
  |false=>exact⟨false,rfl,.inl ⟨rfl,hq⟩⟩
  |true=>
   dsimp only at hq
   cases hr:side k like turn (d.length:Int) with
   |none=>rw[hr] at hq;cases hq
   |some r=>
    obtain⟨l',t'⟩:=r
    rw[hr] at hq
    dsimp only at hq
    cases hz:bz t' (d.length:Int) with
    |none=>rw[hz] at hq;cases hq
    |some z=>
     rw[hz] at hq
     obtain⟨k2,e2,q2,p2⟩:=pY hz
     obtain rfl:k2=d.length:=by omega
     exact⟨true,rfl,.inr ⟨rfl,(l',t'),z,rfl,p2,hq⟩⟩
theorem O4 {k:Nat} {like turn:List Int} {x:Int} {r:List Int×List Int} (h:side k like turn x=some r) (hp:Pm turn):Pm r.2:=by
 obtain⟨ws,-,hb⟩:=vY h
 exact Pm.fX (l:=(like,turn)) hp hb
end Lt
section
variable {c:Wp} {p t:Nat} {W0 W:World} {O:Nat→Prop} {st:TS} {L U Z:Nat} {vp vw:Value}
set_option maxRecDepth 100000 in
set_option maxHeartbeats 16000000 in
theorem yz (h:aQ c p t W0 O st L U Z vp vw W) (Qj:Pm st.turn) {k:Nat} {res:List Int} (hs:sides c.env k c.s.aJ st.like st.turn []=some res):Calls Tryz.prog 49 #[.pointer (some ⟨t,0,none⟩)] W fun e w'=>∃g,e= .returned (.slice (some ⟨g,0,none⟩) c.es.length c.es.length)∧aq w' g res∧res.length=c.es.length∧W.heap.size≤g∧Below W0.heap.size W0 w':=by
 obtain⟨i0,hi,hz0,hz1,hz2⟩:=info_parts Tryz.bS
 have cq:=h.wk.val.few
 have hl:=h.wk.vf.lens
 have x0:=h.cells.1
 have x5:=h.now.c5
 have jS:=Nu.hid h
 have S5:=Nu.hid Qj
 have HS:=Nu.hid hs
 have HL:=Nu.hid hl
 clear h Qj hs hl
 go_enter Tryz.func49,Tryz.ntmps49
 go_wp2_with (at_make;refine wpList_make_full _ rfl _ _ 28 rfl W.heap.size 3 i0 (.int .i64 0) 1 Tryz.underlying28 hi hz0 hz1 _ _ _ _ c.es.length rfl rfl rfl rfl (by rw[hz2];omega) (by unfold maxLen;omega) (Nat.le_refl _) ?_;refine Hid.out ?_)
 refine Nu.hid ?_
 intro w2 hrow hg2
 rw[cD] at hrow
 have hik:=dy hrow
 have hb2:Below W.heap.size W w2:=(Below.refl _ _).grown hg2 (Nat.le_refl _) (fun j hj=>by cases hj)
 have fY:Hid (aq w2 W.heap.size (told c.es.length [])):=by
  have e:told c.es.length []=List.replicate c.es.length 0:=by unfold told;simp
  rw[e]
  exact hik
 have qm:=jS.out.later hb2
 have y0:=qm.cells.1
 have y5:=qm.now.c5
 have HT2:=Nu.hid qm
 have cz:=Nu.hid hb2
 clear hrow hg2 hik hb2 qm x0 x5
 go_wp2_with fail
 go_loopw [25] (fun iv wr=>∃(i:Nat) (l u d:List Int),iv= .int .i64 (i:Int)∧i≤c.es.length∧d.length=i∧aQ c p t W0 O { st with like:=l,turn:=u } L U Z vp vw wr∧Pm u∧aq wr W.heap.size (told c.es.length d)∧sides c.env k (c.s.aJ.drop i) l u d=some res) (fun iv _=>c.es.length-(intOf iv).toNat)
 case atStart=>exact⟨0,_,_,[],rfl,Nat.zero_le _,rfl,HT2.out,S5.out,fY.out,HS.out⟩
 case round=>
  obtain⟨i,l,u,d,rfl,UA,hd,hT,AR,hId,aN⟩:=hrel
  by_cases hlt:i<c.es.length
  ·have hw0:=jS.out.wk
   obtain⟨h1,-,h3,h4⟩:=Lo.cN hw0.vf hlt
   obtain⟨q,hq⟩:∃q,Lo.oh c.s i=q:=⟨_,rfl⟩
   rw[hq] at h1 h3 h4
   have hsp:c.s.aJ.drop i=(q:Int)::c.s.aJ.drop (i+1):=by
    have hlt':i<c.s.aJ.length:=by rw[HL.out.2.2.2];exact hlt
    rw[List.drop_eq_getElem_cons hlt']
    congr 1
    rw[←h1]
    unfold Df.at_
    simp[hlt']
   rw[hsp] at aN
   obtain⟨b,hb,hca⟩:=F8 aN
   have hbk:b=decide (Df.at_ c.s.par (Cs.to c.es q)≠(q:Int)):=by
    unfold back? at hb
    rw[(mh hw0.val h3).2] at hb
    dsimp only[Option.bind_some] at hb
    rw[at_at (l:=c.env.par) (v:=Cs.to c.es q) (by show _<c.s.par.length;rw[HL.out.1];exact(Cs.bH hw0.val h3).2)] at hb
    exact(Option.some.inj hb).symm
   have vM:=Nu.hid (oV hT.now h3)
   rw[←hbk] at vM
   obtain⟨bo,oo,eo,kX⟩:=hT.now.aJ hlt
   have z0:=hT.cells.1
   have z1:=kX wr (Below.refl _ _) i hlt
   rw[h1] at z1
   rw[eo]
   have i0:(0:Int)≤(i:Int):=by omega
   have i1:(i:Int)<(c.es.length:Int):=by omega
   have i2:(i:Int)+1≤4194304:=by omega
   have HX:Hid (∀V,Below wr.heap.size wr V→V.cell? ⟨t,0,none⟩=some (.pointer (some ⟨p,0,none⟩))):=fun V hV=>(hT.later hV).cells.1
   have HT:=Nu.hid hT
   have VI:=Nu.hid hId
   have hPO:¬O W.heap.size:=fun ho=>by have:=jS.out.oX _ ho;omega
   rcases hca with ⟨rfl,fN⟩|⟨rfl,r,z,hr,hz,fN⟩
   ·have fB:Hid (∀V,Below wr.heap.size wr V→∃(l u d:List Int),d.length=i+1∧aQ c p t W0 O { st with like:=l,turn:=u } L U Z vp vw V∧Pm u∧aq V W.heap.size (told c.es.length d)∧sides c.env k (c.s.aJ.drop (i+1)) l u d=some res):=fun V hV=>by
     refine⟨l,u,d++[0],by simp[hd],HT.out.later hV,AR,?_,fN⟩
     rw[←Jk (by omega)]
     exact VI.out.later hV
    clear hT AR hId aN hd h1 hq hsp hb hbk kX eo fN
    go_wp2_with (go_at_call 67;refine vM.out.mono ?_;rintro e1 w1 ⟨rfl,hb1⟩;have aV:=Nu.hid hb1;clear hb1)
    go_roundw
    case rel=>
     obtain⟨l,u,d,k1,k2,k3,k4,k5⟩:=fB.out _ aV.out
     exact⟨i+1,l,u,d,by simp,by omega,k1,k2,k3,k4,k5⟩
    case measure=>
     simp[intOf]
     omega
   ·have HSI:Hid (∀V,Below wr.heap.size wr V→Calls Tryz.prog 89 #[.pointer (some ⟨t,1,none⟩),.int .i64 (i:Int)] V (rj c p t W0 O { st with like:=l,turn:=u } L U Z vp vw V r i)):=fun V hV=>by
     rw[←hd]
     rw[←hd] at hlt
     exact Ji (HT.out.later hV) AR hlt hr
    have fB:Hid (∀V,aQ c p t W0 O { st with like:=r.1,turn:=r.2 } L U Z vp vw V→aq V W.heap.size (told c.es.length (d++[z]))→∃(l u d:List Int),d.length=i+1∧aQ c p t W0 O { st with like:=l,turn:=u } L U Z vp vw V∧Pm u∧aq V W.heap.size (told c.es.length d)∧sides c.env k (c.s.aJ.drop (i+1)) l u d=some res):=fun V k1 k2=>
     ⟨r.1,r.2,d++[z],by simp[hd],k1,O4 hr AR,k2,fN⟩
    have HZ:Hid (r.2[i]? =some z):=by rw[hd] at hz;exact hz
    have BW:Hid ((told c.es.length d).set i z=told c.es.length (d++[z])):=by
     have:=MS (m:=c.es.length) (d:=d) (by omega) z
     rw[hd] at this
     exact this
    have HTL:Hid ((told c.es.length d).length=c.es.length):=MT (by omega)
    have hLU:W.heap.size≠L∧W.heap.size≠U:=by
     have:=jS.out.oX _ jS.out.oL
     have:=jS.out.oX _ jS.out.oU
     omega
    clear hT AR hId aN hd h1 hq hsp hb hbk kX eo fN hr hz
    go_wp2_with (go_at_call 67;refine vM.out.mono ?_;rintro e1 w1 ⟨rfl,hb1⟩;have aV:=Nu.hid hb1;clear hb1)
    go_at_call 89
    refine(HSI.out _ aV.out).mono ?_
    rintro e2 w3 ⟨⟨z',hz',rfl⟩,⟨hk3,hs3⟩,Rv⟩
    have hzz:=HZ.out
    rw[hz'] at hzz
    obtain rfl:=Option.some.inj hzz
    have KD:aq w3 W.heap.size (told c.es.length d):=hk3.2 _ _ (VI.out.later aV.out) rfl (fun q=>q.elim hLU.1 hLU.2)
    obtain⟨zo,NB⟩:∃zo,(told c.es.length d)[i]? =some zo:=⟨_,List.getElem?_eq_getElem (by rw[HTL.out];exact hlt)⟩
    have y1:w3.cell? ⟨W.heap.size,i,none⟩=some (.int .i64 zo):=KD.cell NB
    have y2:w3.frozen? ⟨W.heap.size,i,none⟩=false:=KD.free i
    have BU:=Nu.hid (Rv.far hPO jS.out.aI.size (i:=i) (.int .i64 z'))
    have uk:Hid (aq (w3.setCell ⟨W.heap.size,i,none⟩ (.int .i64 z')) W.heap.size (told c.es.length (d++[z']))):=by
     rw[←BW.out]
     exact KD.set i _
    clear hk3 hs3 Rv KD NB hzz hz'
    simp only[]
    go_wp2_with fail
    go_roundw
    case rel=>
     obtain⟨l,u,d,k1,k2,k3,k4,k5⟩:=fB.out _ BU.out uk.out
     exact⟨i+1,l,u,d,by simp,by omega,k1,k2,k3,k4,k5⟩
    case measure=>
     simp[intOf]
     omega
  ·obtain rfl:i=c.es.length:=by omega
   have hdr:res=d:=by
    rw[List.drop_of_length_le (by rw[HL.out.2.2.2];exact Nat.le_refl _)] at aN
    exact(Option.some.inj aN).symm
   subst hdr
   have VI:Hid (aq wr W.heap.size res):=by
    have e:told c.es.length res=res:=by unfold told;rw[hd,Nat.sub_self];simp
    rw[e] at hId
    exact hId
   have HD:=Nu.hid hd
   have HB:=Nu.hid hT.aI
   clear hT AR hId aN hd
   go_wp2_with fail
   go_ret
   exact⟨_,rfl,VI.out,HD.out,Nat.le_refl _,HB.out⟩
end
end
section
open Go.RowKit Lt Pl
namespace Lt
section
variable {n m:Nat} {T:DF n m} {E:Env} {oe:Nat→List Nat} {hf:Nat→Int}
theorem sV:Inv T E oe (start m) (fun _=>False) [] []:=by
 refine⟨⟨by simp[start],by simp[start],fun p hp=>by simp[flat] at hp,by simp[flat,cG],fun x hx=>by simp[flat,cG] at hx,fun x hx=>by simp[cC] at hx,fun x hx _=>⟨Fb hx,Fb hx⟩,fun x hx=> .inl (Fb hx),fun x hx=>by simp[cC] at hx,fun x hx=>by simp[cC] at hx⟩,rfl,by simp[start],trivial,List.nodup_nil,fun e=>by simp,fun v hv=> ?_,List.nodup_nil,fun l hl=>by simp at hl,fun e he=>by simp at he,fun v hv=>hv.elim,fun a _ _ hv=>hv.elim⟩
 rcases hv with hv|⟨l,hl,_⟩
 ·exact hv.elim
 ·simp at hl
theorem Jj (hE:dN T E oe hf) {N:Nat} (hN:2*m+1≤N) {st':TS}:∀{l:List Int} {st:TS} {fin:Nat→Prop} {G:List Nat},Inv T E oe st fin G []→(∀x∈l,∃v:Nat,v<n∧x=(v:Int))→l.Nodup→(∀u:Nat,Root T u→(u:Int)∈l→¬fin u)→trees E N l st=some (some st')→∃fin' G',Inv T E oe st' fin' G' []:=by
 intro l
 induction l with
 |nil=>
  intro st fin G h _ _ _ ht
  cases ht
  exact⟨fin,G,h⟩
 |cons x l ih=>
  intro st fin G h hx hnd hro ht
  obtain⟨v,hv,rfl⟩:=hx x List.mem_cons_self
  have hx':∀x∈l,∃v:Nat,v<n∧x=(v:Int):=fun y hy=>hx y (List.mem_cons_of_mem _ hy)
  have WV:=(List.nodup_cons.1 hnd).2
  rcases Dc hE hN h hv hnd hro ht with ⟨y,_,_,q⟩|⟨_,_,q⟩
  ·exact ih h hx' WV (fun u hu hm=>hro u hu (List.mem_cons_of_mem _ hm)) q
  ·rcases q with ⟨_,q⟩|⟨fC,qX,G1,_,q2,q3,q4⟩
   ·cases q
   ·exact ih q2 hx' WV q4 q3
theorem MV (hE:dN T E oe hf) (nu:∀x∈E.ord,∃v:Nat,v<n∧x=(v:Int)) (hnd:E.ord.Nodup) (hall:∀v:Nat,v<n→(v:Int)∈E.ord) (ac7:E.aJ=(List.range m).map hf):
 ∃r,(∃k0,∀k,k0≤k→test E k m=some r)∧((r=none∧∀sd,¬T.LR sd)∨∃sd,r=some ((List.range m).map (cU T sd))∧T.LR sd∧T.Aligned sd):=by
 have hstart:Inv T E oe (start m) (fun _=>False) [] []:=sV
 have Qv:∀(L:List Int) (N d:Nat) (st:TS) (r:Option TS),trees E N L st=some r→trees E (N+d) L st=some r:=by
  intro L
  induction L with
  |nil=>exact fun N d st r h=>h
  |cons x L ih=>
   intro N d st r h
   unfold trees at h ⊢
   cases hp:bz E.par x with
   |none=>rw[hp] at h;cases h
   |some p=>
    rw[hp] at h
    dsimp only at h ⊢
    by_cases e:p= -1
    ·rw[if_pos e] at h ⊢
     cases hr:run E N (enter st x) with
     |none=>rw[hr] at h;cases h
     |some q=>
      rw[M3 N _ hr d]
      rw[hr] at h
      cases q with
      |none=>exact h
      |some nG=>exact ih N d nG r h
    ·rw[if_neg e] at h ⊢
     exact ih N d st r h
 rcases FQ hE (Nat.le_refl (2*m+1)) E.ord hstart nu hnd (fun _ _ _ q=>q) with q|⟨st',fin',G',q1,q2,_,q4⟩
 ·refine⟨none,⟨2*m+1,fun k hk=> ?_⟩,.inl ⟨rfl,q.2⟩⟩
  unfold test
  rw[show k=(2*m+1)+(k-(2*m+1)) by omega,Qv E.ord _ _ _ _ q.1]
 ·have Mk:=R7 q2 fun v hv hr=>q4 v hr (hall v hv)
  have hG:∀e,e<m→e∈G':=fun e he=>(q2.gi e).2 ⟨he,.inl (Mk _ (T.lt e he).1)⟩
  have hlk:Lk m st'.like st'.turn (cC T G') []:=q2.lk
  obtain⟨sd,aN⟩:=hlk.sat
  obtain⟨K,hK⟩:=JE hlk.res m
  refine⟨_,⟨2*m+1+K,fun k hk=> ?_⟩,.inr ⟨sd,rfl,⟨?_,?_⟩,?_⟩⟩
  ·unfold test
   rw[show k=(2*m+1)+(k-(2*m+1)) by omega,Qv E.ord _ _ _ _ q1]
   dsimp only
   have hs:=MX (K:=(2*m+1)+(k-(2*m+1))) hE (fun e he te=>(⟨hG e he,te⟩:cC T G' e)) hlk.sm 0 m st'.like st'.turn (by omega) hlk.ll hlk.lt aN hlk.tn hlk.cl (fun x hx sx=>by
    obtain⟨d,r,k1,k2⟩:=hK x hx sx
    exact⟨d,r,by omega,k2⟩)
   rw[ac7,List.range_eq_range',show([]:List Int)=(List.range 0).map (cU T sd) from rfl]
   rw[hs,List.range_eq_range']
   rfl
  ·intro e f b c he hf' hne hfr rb rc ab ac
   exact(q2.r1 (T.fr e) (Mk _ (T.lt e he).1) e f he hf' rfl hfr.symm hne sd aN).1 b c rb rc ab ac
  ·intro e f b c he hf' hne hfr rb ab rc ac
   exact(q2.r1 (T.fr e) (Mk _ (T.lt e he).1) e f he hf' rfl hfr.symm hne sd aN).2.2 b c rb ab rc ac
  ·intro e b c he te hb hc
   exact q2.r2 e he te (Mk _ (T.lt e he).2) sd aN b c hb hc
end
end Lt
noncomputable def RU (n:Nat) (es:List (Int×Int)) (s:Df.St):Env:=Wp.env ⟨n,es,s,none,0,⟨none,none,none,none,0,0,0,0⟩,undef,undef,undef,undef,[]⟩
def fE (n:Nat) (es:List (Int×Int)) (s:Df.St) (r:Option (List Int)):Prop:=∃k0,∀k,k0≤k→Lt.test (RU n es s) k es.length=some r
theorem fE.unique {n:Nat} {es:List (Int×Int)} {s:Df.St} {r r':Option (List Int)} (h:fE n es s r) (h':fE n es s r'):r=r':=by
 obtain⟨a,ha⟩:=h
 obtain⟨b,hb⟩:=h'
 have h1:=ha (a+b) (by omega)
 rw[hb (a+b) (by omega)] at h1
 exact(Option.some.inj h1).symm
theorem fE.ex {n:Nat} {es:List (Int×Int)} {s:Df.St} (hv:Si.Val n es) (h:Df.VF n es s):∃r,fE n es s r∧((r=none∧∀sd,¬(Lr.df hv h).LR sd)∨∃sd,r=some ((List.range es.length).map (cU (Lr.df hv h) sd))∧(Lr.df hv h).LR sd∧(Lr.df hv h).Aligned sd):=by
 obtain⟨c,hc,e1,e2,e3⟩:∃c:Wp,RU n es s=c.env∧c.n=n∧c.es=es∧c.s=s:=⟨_,rfl,rfl,rfl,rfl⟩
 subst e1
 subst e2
 subst e3
 unfold fE
 rw[hc]
 exact MV (Wp.Bi hv h) (Wp.EG h) (Wp.EF h) (Wp.Po h) (Wp.T7 h)
end
end Go.Proofs.YtnhcggfbkoppnaaGreat
