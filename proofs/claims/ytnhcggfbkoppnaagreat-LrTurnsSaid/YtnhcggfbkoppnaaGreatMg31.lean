import Derived.Test.YtnhcggfbkoppnaaGreatMg30
import Derived.Test.YtnhcggfbkoppnaaGreatMg15
namespace Go.Proofs.YtnhcggfbkoppnaaGreat
section
open Go.RowKit Lt
theorem Gm {lw lowest:List Int} {above:Int} {bottom:Pr}:∀{ps:List Pr} {like:List Int} {o:Iv} {qs:List Pr} {aH:List Int} {i:Iv},Lt.own lw lowest above bottom ps like o=some (some (qs,aH,i))→qs.length≤ps.length
 |[],like,o,qs,aH,i,h=>by
  unfold Lt.own at h
  split at h
  ·cases h;simp
  ·cases h
 |q::ps,like,o,qs,aH,i,h=>by
  unfold Lt.own at h
  by_cases e1:q=bottom
  ·rw[if_pos e1] at h
   cases h
   simp
  ·rw[if_neg e1] at h
   by_cases e2:(if q.2=aP then q.2 else q.1)≠aP
   ·rw[if_pos e2] at h
    cases h
   ·rw[if_neg e2] at h
    generalize (if q.2=aP then q.1 else q.2)=X at h
    cases e3:bz lw X.2 with
    |none=>rw[e3] at h;cases h
    |some a=>
     cases e4:bz lw above with
     |none=>rw[e3,e4] at h;cases h
     |some b=>
      rw[e3,e4] at h
      dsimp only at h
      have fin:∀{eW:List Int} {o2:Iv},Lt.own lw lowest above bottom ps eW o2=some (some (qs,aH,i))→qs.length≤(q::ps).length:=fun h2=>by
       have:=Gm h2
       rw[List.length_cons]
       omega
      by_cases e5:a=b
      ·rw[if_pos e5] at h
       cases e6:bz lowest above with
       |none=>rw[e6] at h;cases h
       |some z=>
        rw[e6] at h
        dsimp only at h
        cases e7:eT like X.2 z with
        |none=>rw[e7] at h;cases h
        |some l2=>rw[e7] at h;exact fin h
      ·rw[if_neg e5] at h
       cases e6:join like o X with
       |none=>rw[e6] at h;cases h
       |some q2=>
        obtain⟨l2,o2⟩:=q2
        rw[e6] at h
        exact fin h
theorem xJ {lw:List Int} {e:Int}:∀{ps:List Pr} {like:List Int} {p:Pr} {qs:List Pr} {aH:List Int} {i:Pr},others lw e ps like p=some (some (qs,aH,i))→qs.length≤ps.length
 |[],like,p,qs,aH,i,h=>by
  cases h
  simp
 |q::ps,like,p,qs,aH,i,h=>by
  unfold others at h
  cases e1:fU lw q.1 e with
  |none=>rw[e1] at h;cases h
  |some l=>
   cases e2:fU lw q.2 e with
   |none=>rw[e1,e2] at h;cases l<;>cases h
   |some r=>
    rw[e1,e2] at h
    have fin:∀{x:Pr},(match join like p.1 x.1 with|none=>none|some (eX,i1)=>match join eX p.2 x.2 with|none=>none|some (eW,i2)=>others lw e ps eW (i1,i2))=some (some (qs,aH,i))→qs.length≤(q::ps).length:=fun {x} h2=>by
     cases e3:join like p.1 x.1 with
     |none=>rw[e3] at h2;cases h2
     |some r1=>
      obtain⟨l1,i1⟩:=r1
      rw[e3] at h2
      dsimp only at h2
      cases e4:join l1 p.2 x.2 with
      |none=>rw[e4] at h2;cases h2
      |some r2=>
       obtain⟨l2,i2⟩:=r2
       rw[e4] at h2
       have:=xJ h2
       rw[List.length_cons]
       omega
    cases l<;>cases r
    ·cases h;simp
    ·exact fin h
    ·exact fin h
    ·cases h
section
variable {c:Wp} {p t:Nat} {W0 W:World} {O:Nat→Prop} {st:TS} {L U Z:Nat} {vp vw:Value}
def gD (c:Wp) (p t:Nat) (W0:World) (O:Nat→Prop) (W:World) (r:Option TS) (e:Ending) (w':World):Prop:=
 match r with
 |none=>∃st',e= .returned (.bool false)∧aT c p t W0 O W st' w'
 |some st'=>e= .returned (.bool true)∧aT c p t W0 O W st' w'
noncomputable def Wp.env (c:Wp):Env:=⟨c.lw,Lo.bR c.n c.es c.s c.es.length,c.s.par,c.s.ay,c.s.ord,c.s.aJ,c.es.map (·.1),c.es.map (·.2)⟩
theorem aT.later {V V':World} {st':TS} (h:aT c p t W0 O W st' V) (hb:Below V.heap.size V V'):aT c p t W0 O W st' V':=by
 obtain⟨h1,L',U',Z',oY,qo,h2⟩:=h
 have h3:=h2.later hb
 exact⟨h1.later hb,L',U',Z',oY,qo,h3.more (fun b hb'=>⟨hb'.1,h3.oX b hb'⟩) (fun b hb'=>by
  by_cases hv:b<V.heap.size
  ·exact h2.oB b ⟨hb'.1,hv⟩
  ·have:=h2.aI.size
   omega) (fun b hb'=>hb'.2)⟩
set_option maxRecDepth 100000 in
set_option maxHeartbeats 16000000 in
theorem Jo (h:aQ c p t W0 O st L U Z vp vw W) {e a:Nat} {r:Option TS} (hlen:st.stk.length≤8388606) (hwl:st.way.length≤8388607) (ho:Lt.j9 c.env st e a=some r):
 Calls Tryz.prog 151 #[.pointer (some ⟨t,0,none⟩),.int .i64 (e:Int),.int .i64 (a:Int)] W (gD c p t W0 O W r):=by
 have eqP:=RT
 unfold Lt.j9 at ho
 cases bB:st.way with
 |nil=>rw[bB] at ho;cases ho
 |cons v ws=>
  rw[bB] at ho
  dsimp only at ho
  cases h1:Lt.own c.env.lw st.lowest a v.2.2 st.stk st.like aP with
  |none=>rw[h1] at ho;cases ho
  |some r1=>
   have Vz:=Nu.hid (De h bB (by omega) hwl h1)
   rw[h1] at ho
   have hB0:=h.aI.size
   cases r1 with
   |none=>
    cases ho
    clear h bB h1
    go_enter Tryz.func151,Tryz.ntmps151
    go_wp2_with (go_at_call 161;refine Vz.out.mono ?_;rintro e1 w1 ⟨i,fC,rfl,gP⟩;have C3:=Nu.hid gP;clear gP)
    go_ret
    exact⟨fC,rfl,C3.out.later ((Below.refl _ _).alloc (Nat.le_refl _) _)⟩
   |some q1=>
    obtain⟨ps,lk,oa,ob⟩:=q1
    dsimp only at ho
    have HO2:=Nu.hid (aD.calls (aD.start h) (fun b hb=>hb.elim) (f:=161) (args:= #[.pointer (some ⟨t,0,none⟩),.int .i64 (a:Int)]) (R:=fun e=>e= .returned (.tuple #[dG (oa,ob),.bool true])) (st':={ st with stk:=ps,like:=lk }) (fun hT=>De hT bB (by omega) hwl h1))
    cases h2:others c.env.lw e ps lk (aP,(oa,ob)) with
    |none=>rw[h2] at ho;cases ho
    |some r2=>
     rw[h2] at ho
     have hpl:ps.length≤st.stk.length:=Gm h1
     have H2:=Nu.hid h2
     have yO:Hid (ps.length≤8388606):=by show ps.length≤8388606;omega
     have XL:=Nu.hid bB
     clear h1 h2 Vz h bB hpl
     go_enter Tryz.func151,Tryz.ntmps151
     go_wp2_with (go_at_call 161;refine HO2.out.mono ?_;rintro e1 w1 ⟨rfl,mI,-⟩;have nD:=Nu.hid mI;clear mI)
     obtain⟨b7,kO⟩:∃b7,w1.heap.size=b7:=⟨_,rfl⟩
     obtain⟨W2,hW2⟩:∃W2,W2=w1.alloc (kK (oa,ob)):=⟨_,rfl⟩
     have g8:aD c p t W0 O W (fun b=>b=b7) { st with stk:=ps,like:=lk } W2:=by
      rw[hW2]
      exact(nD.out.box _).less fun b hb=> .inr (by omega)
     have Hu:W2.heap[b7]? =some (kK (oa,ob)):=by rw[hW2,←kO];exact heap_alloc_new _ _
     have hB2:∀b,b=b7→b<W2.heap.size:=fun b hb=>by have:=lt_of_block Hu;omega
     have kR:=Nu.hid hW2
     have FI:=Nu.hid kO
     cases r2 with
     |none=>
      cases ho
      have HOT:Hid (Calls Tryz.prog 162 #[.pointer (some ⟨t,0,none⟩),.int .i64 (e:Int),dG (oa,ob)] W2 fun r w'=>∃q st',r= .returned (.tuple #[fL q,.bool false])∧aT c p t W0 O W st' w'):=by
       obtain⟨⟨k0,Y5,k01⟩,k1,O',k2,k3,L',U',Z',oY,qo,hT⟩:=g8
       refine(Dg hT (oa,ob) (by have:=yO.out;dsimp only;omega) H2.out).mono fun r w' hr=> ?_
       obtain⟨q,st',e1,e2⟩:=hr
       refine⟨q,st',e1,?_⟩
       have hx:aD c p t W0 O W (fun _=>False) st' w':=by
        obtain⟨hw,L2,U2,Z2,Yu,Ys,h5⟩:=e2
        refine⟨⟨k0,Y5,fun b hb=>hb.elim⟩,?_,_,fun b hb=> ?_,fun b hb=>hb.elim,L2,U2,Z2,Yu,Ys,h5⟩
        ·refine⟨hw.os.trans k1.os,hw.tape.trans k1.tape,hw.output.trans k1.output,Nat.le_trans k1.size hw.size,fun k hk hn=> ?_⟩
         have hs:=k1.size
         exact(hw.block k (by omega) (fun q=>(k2 k q).elim hn fun q=>by omega)).trans (k1.block k hk hn)
        ·have hs:=k1.size
         rcases hb.1 with q|q
         ·exact k2 b q
         ·exact .inr (by omega)
       exact hx.post
      change Calls _ _ _ (w1.alloc (kK (oa,ob))) _
      rw[←kR.out]
      clear g8 Hu hB2 hW2 kO
      go_at_call 162
      refine HOT.out.mono ?_
      rintro e1 w3 ⟨q,st',rfl,hp3⟩
      have OB:=Nu.hid hp3
      clear hp3
      go_wp2_with fail
      obtain⟨W4,k8⟩:∃W4,W4=w3.alloc (bY q):=⟨_,rfl⟩
      have HP4:Hid (aT c p t W0 O W st' W4):=by rw[k8];exact OB.out.later ((Below.refl _ _).alloc (Nat.le_refl _) _)
      change Code.wp _ _ _ _ (w3.alloc (bY q))
      rw[←k8]
      have Qr:=LW.any W4
      clear k8
      refine aC (by kernel_rfl) (by kernel_rfl) ?_
      repeat (go_big_quiet_step (fail))
      refine wpQuiet_nil ?_
      rintro _ ⟨D,rfl⟩
      go_wp2
      go_ret
      exact⟨st',rfl,HP4.out.later D.h⟩
     |some q2=>
      obtain⟨qs,gH,⟨pa,pb⟩,pc,pd⟩:=q2
      have HOT:=Nu.hid (aD.calls g8 hB2 (f:=162) (args:= #[.pointer (some ⟨t,0,none⟩),.int .i64 (e:Int),dG (oa,ob)]) (R:=fun e=>e= .returned (.tuple #[fL ((pa,pb),pc,pd),.bool true])) (st':={ st with stk:=qs,like:=gH }) (fun hT=>Dg hT (oa,ob) (by have:=yO.out;dsimp only;omega) H2.out))
      have NH:qs.length≤ps.length:=xJ H2.out
      have HQL:Hid (qs.length≤8388606):=by show qs.length≤8388606;have:=yO.out;omega
      have cz:=Nu.hid hB2
      obtain⟨z0,z1,-⟩:=az Hu
      change Calls _ _ _ (w1.alloc (kK (oa,ob))) _
      rw[←kR.out]
      clear g8 Hu hB2 hW2 kO NH z0 z1
      go_at_call 162
      refine HOT.out.mono ?_
      rintro e1 w3 ⟨rfl,g7,-⟩
      have p9:=Nu.hid g7
      clear g7
      go_wp2_with fail
      obtain⟨b9,gw⟩:∃b9,w3.heap.size=b9:=⟨_,rfl⟩
      obtain⟨W4,k8⟩:∃W4,W4=w3.alloc (bY ((pa,pb),pc,pd)):=⟨_,rfl⟩
      have Ho:aD c p t W0 O W (fun b=>b=b9) { st with stk:=qs,like:=gH } W4:=by
       rw[k8]
       exact(p9.out.box _).less fun b hb=> .inr (by omega)
      have tH:W4.heap[b9]? =some (bY ((pa,pb),pc,pd)):=by rw[k8,←gw];exact heap_alloc_new _ _
      have G9:=lt_of_block tH
      have xl:Hid (∀D:LW W4,Calls Tryz.prog 131 #[] D.val fun e w'=>e= .returned (fL dI)∧Below D.val.heap.size D.val w'):=fun D=>oy D.val
      have y0:∀D:LW W4,D.val.cell? ⟨b9,0,none⟩=some (.int .i64 pa):=fun D=>(au ((D.h.block _ G9).trans tH)).1
      have y1:∀D:LW W4,D.val.cell? ⟨b9,1,none⟩=some (.int .i64 pb):=fun D=>(au ((D.h.block _ G9).trans tH)).2.1
      have y2:∀D:LW W4,D.val.cell? ⟨b9,2,none⟩=some (.int .i64 pc):=fun D=>(au ((D.h.block _ G9).trans tH)).2.2.1
      have y3:∀D:LW W4,D.val.cell? ⟨b9,3,none⟩=some (.int .i64 pd):=fun D=>(au ((D.h.block _ G9).trans tH)).2.2.2.1
      have Qr:=LW.any W4
      have p8:=Nu.hid Ho
      have Tq:=Nu.hid tH
      have nU:=Nu.hid k8
      change Code.wp _ _ _ _ (w3.alloc (bY ((pa,pb),pc,pd)))
      rw[←nU.out,gw]
      clear Ho tH G9 k8 gw
      by_cases hn:((pa,pb),pc,pd)=dI
      ·rw[if_pos hn] at ho
       cases ho
       have q1:pa= -1:=congrArg (fun x:Pr=>x.1.1) hn
       have q2:pb= -1:=congrArg (fun x:Pr=>x.1.2) hn
       have q3:pc= -1:=congrArg (fun x:Pr=>x.2.1) hn
       have q4:pd= -1:=congrArg (fun x:Pr=>x.2.2) hn
       subst q1
       subst q2
       subst q3
       subst q4
       clear hn
       refine aC (by kernel_rfl) (by kernel_rfl) ?_
       repeat (go_big_quiet_step ((first|(go_at_call 131;exact Calls.lw (xl.out _)))))
       refine wpQuiet_nil ?_
       rintro _ ⟨D,rfl⟩
       clear y0 y1 y2 y3
       go_wp2
       go_ret
       exact⟨rfl,by rw[←XL.out];exact(p8.out.later D.h).post⟩
      ·rw[if_neg hn] at ho
       cases ho
       have hdec:=Gq hn
       dsimp only at hdec
       clear hn
       refine aC (by kernel_rfl) (by kernel_rfl) ?_
       repeat (go_big_quiet_step ((first|(go_at_call 131;exact Calls.lw (xl.out _)))))
       refine wpQuiet_nil ?_
       rintro _ ⟨D,rfl⟩
       clear y0 y1 y2 y3
       have kM:=p8.out.later D.h
       have hb5:D.val.heap[b9]? =some (bY ((pa,pb),pc,pd)):=(D.h.block _ (lt_of_block Tq.out)).trans Tq.out
       obtain⟨z0,z1,z2,z3,-⟩:=au hb5
       have C2:=Nu.hid (aD.calls kM (fun b hb=>by have:=lt_of_block hb5;omega) (f:=134) (args:= #[.pointer (some ⟨t,0,none⟩),fL ((pa,pb),pc,pd)]) (R:=fun e=>e= .returned (.tuple #[])) (st':={ st with stk:=((pa,pb),pc,pd)::qs,like:=gH }) (fun hT=>sU hT ((pa,pb),pc,pd) (by have:=HQL.out;dsimp only;omega)))
       clear kM hb5
       go_wp2_with (go_at_call 134;refine C2.out.mono ?_;rintro e1 w6 ⟨rfl,eZ,-⟩;have rB:=Nu.hid eZ;clear eZ)
       go_ret
       exact⟨rfl,by rw[←XL.out];exact rB.out.post⟩
end
end
section
open Go.RowKit Lt
theorem mh {c:Wp} (hv:Si.Val c.n c.es) {u:Nat} (hu:u<2*c.es.length):KI c.env (u:Int)=some (Cs.fr c.es u:Int)∧MU c.env (u:Int)=some (Cs.to c.es u:Int):=by
 obtain⟨k,hk⟩:∃k,u/2=k:=⟨_,rfl⟩
 obtain⟨q,hq⟩:∃q,c.es[k]? =some q:=⟨_,List.getElem?_eq_getElem (by omega)⟩
 have hok:=hv.each k q hq
 unfold Si.ok at hok
 obtain⟨k1,-⟩:=eC hk
 have us:bz c.env.us (k:Int)=some q.1:=by
  unfold bz
  rw[if_pos (by omega)]
  show(c.es.map (·.1))[((k:Int)).toNat]? =_
  rw[show((k:Int)).toNat=k from by simp,List.getElem?_map,hq]
  rfl
 have vs:bz c.env.vs (k:Int)=some q.2:=by
  unfold bz
  rw[if_pos (by omega)]
  show(c.es.map (·.2))[((k:Int)).toNat]? =_
  rw[show((k:Int)).toNat=k from by simp,List.getElem?_map,hq]
  rfl
 unfold KI MU
 rw[k1,us,vs]
 have hm:((u:Int)).tmod 2=((u%2:Nat):Int):=by rw[Int.tmod_eq_emod_of_nonneg (by omega)];omega
 rw[hm]
 rcases Nat.mod_two_eq_zero_or_one u with e|e
 ·rw[e,if_pos (by simp),if_pos (by simp)]
  have h1:=Cs.iR hq
  rw[show 2*k=u by omega] at h1
  rw[h1.1,h1.2]
  exact⟨by congr 1;omega,by congr 1;omega⟩
 ·rw[e,if_neg (by simp),if_neg (by simp)]
  have h1:=Cs.nw hq
  rw[show 2*k+1=u by omega] at h1
  rw[h1.1,h1.2]
  exact⟨by congr 1;omega,by congr 1;omega⟩
theorem at_at {l:List Int} {v:Nat} (h:v<l.length):bz l (v:Int)=some (Df.at_ l v):=by
 unfold bz
 rw[if_pos (by omega)]
 show l[((v:Int)).toNat]? =_
 rw[show((v:Int)).toNat=v from by simp]
 unfold Df.at_
 simp[h]
section
variable {c:Wp} {p t:Nat} {W0 W:World} {O:Nat→Prop} {st:TS} {L U Z:Nat} {vp vw:Value}
theorem bV.outs (h:bV c p W) {v:Nat} {l:List Int} (hl:(Lo.bR c.n c.es c.s c.es.length)[v]? =some l):∃go co ao ca,c.vo= .slice (some ⟨go,0,none⟩) c.n co∧∀V,Below W.heap.size W V→V.cell? ⟨go,v,none⟩=some (.slice ao l.length ca)∧∀(i:Nat) (x:Int),l[i]? =some x→∃b,ao=some ⟨b,0,none⟩∧V.cell? ⟨b,i,none⟩=some (.int .i64 x):=by
 have hlen:=Lo.dw c.n c.es c.s c.es.length
 have dh:v<c.n:=by rw[←hlen];exact(List.getElem?_eq_some_iff.1 hl).1
 have ho:=h.out.outer
 rw[hlen] at ho
 rcases ho.2 with ⟨_,h0⟩|⟨go,co,cur,e,_⟩
 ·omega
 ·obtain⟨x,hx⟩:=h.out.RY hl
  have hown:=h.out.row v x l hx hl
  rcases hown.2 with ⟨e2,h0⟩|⟨g,cap,akc,e2,_⟩
  ·refine⟨go,co,none,0,e,fun V hV=>⟨?_,fun i x hi=> ?_⟩⟩
   ·have h2:=(h.out.later hV).outer
    rw[hlen,e] at h2
    have:=World.ownsRow.cells h2 (g:=go) rfl v x hx
    have ea:((⟨go,0,none⟩:Addr).add v)=⟨go,v,none⟩:=by
     by_cases h0:v=0<;>simp[Addr.add,h0]
    rw[ea,e2] at this
    rw[h0]
    exact this
   ·have:=(List.getElem?_eq_some_iff.1 hi).1
    omega
  ·refine⟨go,co,some ⟨g,0,none⟩,cap,e,fun V hV=>⟨?_,fun i y hi=>⟨g,rfl,?_⟩⟩⟩
   ·have h2:=(h.out.later hV).outer
    rw[hlen,e] at h2
    have:=World.ownsRow.cells h2 (g:=go) rfl v x hx
    have ea:((⟨go,0,none⟩:Addr).add v)=⟨go,v,none⟩:=by
     by_cases h0:v=0<;>simp[Addr.add,h0]
    rw[ea,e2] at this
    exact this
   ·have h3:=hown.later hV
    unfold aS at h3
    rw[e2] at h3
    have:=World.ownsRow.cells h3 (g:=g) rfl i (.int .i64 y) (by rw[List.getElem?_map,hi];rfl)
    have ea:((⟨g,0,none⟩:Addr).add i)=⟨g,i,none⟩:=by
     by_cases h0:i=0<;>simp[Addr.add,h0]
    rw[ea] at this
    exact this
set_option maxRecDepth 100000 in
set_option maxHeartbeats 16000000 in
theorem uB (h:aQ c p t W0 O st L U Z vp vw W) {u:Nat} (hu:u<2*c.es.length) {r:Option TS} (hlen:st.stk.length≤8388606) (hwl:st.way.length≤8388607) (ho:Lt.settle c.env st (u:Int)=some r):
 Calls Tryz.prog 133 #[.pointer (some ⟨t,0,none⟩),.int .i64 (u:Int)] W (gD c p t W0 O W r):=by
 have cq:=h.wk.val.few
 have hwk:=h.now
 have eM:=mh h.wk.val hu
 have hlt:=Cs.bH h.wk.val hu
 have hl:=h.wk.vf.lens
 obtain⟨k,hk⟩:∃k,u/2=k:=⟨_,rfl⟩
 obtain⟨k1,k2⟩:=eC hk
 have hkm:k<c.es.length:=by omega
 have dZ:bz c.env.lw (k:Int)=some (Lo.low c.es c.s k):=by
  show bz c.lw (k:Int)=_
  rw[bz,if_pos (by omega)]
  show(upTo _ _)[((k:Int)).toNat]? =_
  rw[show((k:Int)).toNat=k from by simp]
  exact gR hkm
 have A9:ya c.env (u:Int)=some (Df.at_ c.s.ay (Cs.fr c.es u)):=by
  unfold ya
  rw[eM.1]
  exact at_at (by show _<c.s.ay.length;rw[hl.2.1];exact hlt.1)
 unfold Lt.settle at ho
 rw[k1,dZ,A9] at ho
 dsimp only at ho
 have x0:=h.cells.1
 have uf:=Nu.hid (sD hwk hu)
 rw[hk] at uf
 by_cases gY:Lo.low c.es c.s k<Df.at_ c.s.ay (Cs.fr c.es u)
 ·rw[if_pos gY] at ho
  have hd:decide (Lo.low c.es c.s k<Df.at_ c.s.ay (Cs.fr c.es u))=true:=decide_eq_true gY
  rw[hd] at uf
  obtain⟨v,hv⟩:∃v,Cs.fr c.es u=v:=⟨_,rfl⟩
  have dh:v<c.n:=by rw[←hv];exact hlt.1
  obtain⟨x,hx⟩:∃x,Df.at_ c.s.par v=x:=⟨_,rfl⟩
  have hpar:bz c.env.par (v:Int)=some x:=by rw[←hx];exact at_at (by show _<c.s.par.length;rw[hl.1];exact dh)
  obtain⟨ab,hab,hx0,hx1⟩:∃ab:Nat,x.tdiv 2=(ab:Int)∧(ab:Int)≤8388608∧0≤(ab:Int):=by
   rcases h.wk.vf.hang v dh with ⟨e1,-⟩|⟨w,hw,e1,-⟩
   ·rw[e1] at hx
    subst hx
    exact⟨0,by decide,by omega,by omega⟩
   ·rw[e1] at hx
    subst hx
    exact⟨w/2,(eC rfl).1,by omega,by omega⟩
  rw[eM.1,hv] at ho
  dsimp only[Option.bind_some] at ho
  rw[hpar,show((v:Int)).toNat=v from by simp] at ho
  cases pO:c.env.outs[v]? with
  |none=>rw[pO] at ho;cases ho
  |some l=>
   rw[pO] at ho
   dsimp only[Option.bind_some] at ho
   cases hl0:l[0]? with
   |none=>rw[hl0] at ho;cases ho
   |some o=>
    rw[hl0] at ho
    dsimp only at ho
    rw[hab] at ho
    obtain⟨go,co,ao,ca,eo,kX⟩:=hwk.outs pO
    obtain⟨bp,op,ep,pR⟩:=hwk.par dh
    have hin:=aD.start h
    have ll:0<l.length:=(List.getElem?_eq_some_iff.1 hl0).1
    obtain⟨bo,ebo,-⟩:=(kX W (Below.refl _ _)).2 0 o hl0
    have HF:Hid (∀V,Below W.heap.size W V→V.cell? ⟨t,0,none⟩=some (.pointer (some ⟨p,0,none⟩))∧V.cell? ⟨p,2,none⟩=some (.slice (some ⟨bp,op,none⟩) c.n c.f.c1)∧V.cell? ⟨bp,op+v,none⟩=some (.int .i64 x)∧V.cell? ⟨p,9,none⟩=some (.slice (some ⟨go,0,none⟩) c.n co)∧V.cell? ⟨go,v,none⟩=some (.slice (some ⟨bo,0,none⟩) l.length ca)∧V.cell? ⟨bo,0,none⟩=some (.int .i64 o)∧aQ c p t W0 O st L U Z vp vw V):=fun V hV=>by
     have hT:=h.later hV
     have hW:=hwk.later hV
     obtain⟨q1,q2⟩:=kX V hV
     obtain⟨b2,e2,q3⟩:=q2 0 o hl0
     rw[ebo] at e2 q1
     cases e2
     have q4:=hW.c2
     rw[ep] at q4
     have q5:=hW.c9
     rw[eo] at q5
     exact⟨hT.cells.1,q4,by rw[←hx];exact pR V hV v dh,q5,q1,q3,hT⟩
    have jO:Hid (∀V,aQ c p t W0 O st L U Z vp vw V→Calls Tryz.prog 105 #[.pointer (some ⟨p,0,none⟩),.int .i64 (u:Int)] V fun e w'=>e= .returned (.int .i64 (v:Int))∧w'=V):=fun V hV=>by rw[←hv];exact lO hV.now hu
    have t0:(0:Int)≤(v:Int):=by omega
    have t1:(v:Int)<(c.n:Int):=by omega
    have t2:(0:Int)<(l.length:Int):=by omega
    have v0:(0:Int)≤(k:Int):=by omega
    have v1:(k:Int)<(c.es.length:Int):=by omega
    have v2:(k:Int)≤4194304:=by omega
    have hB0:=h.aI.size
    by_cases ho2:o=(u:Int)
    ·rw[if_pos ho2] at ho
     cases mF:bz st.lowest (k:Int) with
     |none=>rw[mF] at ho;cases ho
     |some y=>
      rw[mF] at ho
      dsimp only at ho
      cases hl2:eT st.lowest (ab:Int) y with
      |none=>rw[hl2] at ho;cases ho
      |some l2=>
       rw[hl2] at ho
       cases ho
       obtain⟨kb,hkb,cT,rfl⟩:=jl hl2
       obtain⟨ky,QI,Xb,hyy⟩:=oH mF
       obtain rfl:kb=ab:=by omega
       obtain rfl:ky=k:=by omega
       subst ho2
       have a1:(kb:Int)<(c.es.length:Int):=by rw[←h.lz];omega
       have HCE:Hid (∀V,Below W.heap.size W V→V.cell? ⟨t,5,none⟩=some (.slice (some ⟨Z,0,none⟩) c.es.length c.es.length)∧V.cell? ⟨Z,ky,none⟩=some (.int .i64 y)∧(∃q,V.cell? ⟨Z,kb,none⟩=some (.int .i64 q))∧V.frozen? ⟨Z,kb,none⟩=false∧aD c p t W0 O W (fun _=>False) { st with lowest:=st.lowest.set kb y } (V.setCell ⟨Z,kb,none⟩ (.int .i64 y))):=fun V hV=>by
        have hT:=h.later hV
        have q1:=nO hT.lowest Xb
        rw[hyy] at q1
        refine⟨hT.cells.2.2.2.2.2.1,q1,⟨_,nO hT.lowest cT⟩,hT.lowest.free kb,?_⟩
        obtain⟨k0,-,-,-⟩:=hin
        refine⟨k0,?_,O,fun b hb=> .inl hb,fun b hb=>hb.elim,L,U,Z,vp,vw,hT.sW kb y⟩
        exact((aF.refl O W).later hV).setCell h.oZ _
       clear h hwk gY hd eM dZ A9 kX pR hin pO hl0 hlt hl hpar hx hv mF hl2 QI hkb hyy cT Xb
       go_enter Tryz.func133,Tryz.ntmps133
       go_wp2_with (go_at_call 70;refine uf.out.mono ?_;rintro e1 w1 ⟨rfl,hb1⟩;have aV:=Nu.hid hb1;obtain⟨y0,y1,y2,y3,y4,y5,xT⟩:=HF.out w1 hb1;have m7:=Nu.hid xT;obtain⟨z1,z2,⟨zq,z3⟩,z4,zT⟩:=HCE.out w1 hb1;have HZT:=Nu.hid zT;clear hb1 xT x0 zT)
       go_at_call 105
       refine(jO.out _ m7.out).mono ?_
       rintro e1 w2 ⟨rfl,rfl⟩
       go_wp2_with fail
       clear y0 y1 y2 y3 y4 y5
       go_big_region
       go_wp2_with fail
       go_ret
       exact⟨rfl,HZT.out.drew.post⟩
    ·rw[if_neg ho2] at ho
     have HCO:Hid (∀V,Below W.heap.size W V→Calls Tryz.prog 151 #[.pointer (some ⟨t,0,none⟩),.int .i64 (k:Int),.int .i64 (ab:Int)] V (gD c p t W0 O W r)):=fun V hV=>by
      refine(Jo (HF.out V hV).2.2.2.2.2.2 hlen hwl ho).mono fun e w' hp=> ?_
      cases r with
      |none=>
       obtain⟨st',e1,e2⟩:=hp
       exact⟨st',e1,aT.pre hB0 hV e2⟩
      |some st'=>exact⟨hp.1,aT.pre hB0 hV hp.2⟩
     clear h hwk gY hd eM dZ A9 kX pR hin ho pO hl0 hlt hl hpar hx hv
     go_enter Tryz.func133,Tryz.ntmps133
     go_wp2_with (go_at_call 70;refine uf.out.mono ?_;rintro e1 w1 ⟨rfl,hb1⟩;have aV:=Nu.hid hb1;obtain⟨y0,y1,y2,y3,y4,y5,xT⟩:=HF.out w1 hb1;have m7:=Nu.hid xT;clear hb1 xT x0)
     go_at_call 105
     refine(jO.out _ m7.out).mono ?_
     rintro e1 w2 ⟨rfl,rfl⟩
     go_wp2_with fail
     go_at_call 151
     refine(HCO.out _ aV.out).mono ?_
     intro e1 w3 hp
     have HP:=Nu.hid hp
     clear hp
     cases r with
     |none=>
      obtain⟨st',rfl,hp⟩:=HP.out
      have ko:=Nu.hid hp
      clear hp HP
      go_wp2_with fail
      go_ret
      exact⟨st',rfl,ko.out⟩
     |some st'=>
      obtain⟨rfl,hp⟩:=HP.out
      have ko:=Nu.hid hp
      clear hp HP
      go_wp2_with fail
      go_ret
      exact⟨rfl,ko.out⟩
 ·rw[if_neg gY] at ho
  cases ho
  have hd:decide (Lo.low c.es c.s k<Df.at_ c.s.ay (Cs.fr c.es u))=false:=decide_eq_false gY
  rw[hd] at uf
  have mW:=Nu.hid (aD.start h)
  clear h hwk gY hd eM dZ A9
  go_enter Tryz.func133,Tryz.ntmps133
  go_wp2_with (go_at_call 70;refine uf.out.mono ?_;rintro e1 w1 ⟨rfl,hb1⟩)
  go_ret
  exact⟨rfl,(mW.out.later hb1).post⟩
end
end
section
open Go.RowKit Lt
section
variable {c:Wp} {p t:Nat} {W0 W wr:World} {O B:Nat→Prop} {st:TS} {L U Z:Nat} {vp vw:Value}
theorem aD.back {O':Nat→Prop} {st':TS} {w':World} (h0:W0.heap.size≤W.heap.size∧(∀b,O b→W0.heap.size≤b∧b<W.heap.size)∧∀b,B b→W.heap.size≤b) (h1:aF O W wr) (h2:∀b,O' b→O b∨W.heap.size≤b) (h:aT c p t W0 O' wr st' w'):aT c p t W0 O W st' w':=by
 obtain⟨hw,L2,U2,Z2,Yu,Ys,h5⟩:=h
 have hx:aD c p t W0 O W (fun _=>False) st' w':=by
  refine⟨⟨h0.1,h0.2.1,fun b hb=>hb.elim⟩,?_,_,fun b hb=> ?_,fun b hb=>hb.elim,L2,U2,Z2,Yu,Ys,h5⟩
  ·refine⟨hw.os.trans h1.os,hw.tape.trans h1.tape,hw.output.trans h1.output,Nat.le_trans h1.size hw.size,fun k hk hn=> ?_⟩
   have hs:=h1.size
   exact(hw.block k (by omega) (fun q=>(h2 k q).elim hn fun q=>by omega)).trans (h1.block k hk hn)
  ·have hs:=h1.size
   rcases hb.1 with q|q
   ·exact h2 b q
   ·exact .inr (by omega)
 exact hx.post
theorem aD.says {f:FuncId} {args:Array Value} {r:Option TS} (h:aD c p t W0 O W B st wr)
 (hc:∀{O':Nat→Prop} {L U Z:Nat} {vp vw:Value},aQ c p t W0 O' st L U Z vp vw wr→Calls Tryz.prog f args wr (gD c p t W0 O' wr r)):
 Calls Tryz.prog f args wr (gD c p t W0 O W r):=by
 obtain⟨h0,h1,O',h2,h3,L,U,Z,vp,vw,h4⟩:=h
 refine(hc h4).mono fun e w' hp=> ?_
 cases r with
 |none=>
  obtain⟨st',e1,e2⟩:=hp
  exact⟨st',e1,aD.back h0 h1 h2 e2⟩
 |some st'=>exact⟨hp.1,aD.back h0 h1 h2 hp.2⟩
set_option maxRecDepth 100000 in
set_option maxHeartbeats 16000000 in
theorem OY (h:aQ c p t W0 O st L U Z vp vw W) {u:Nat} (hu:u<2*c.es.length) {r:Option TS} (hlen:st.stk.length≤8388605) (hwl:st.way.length≤8388607) (ho:Lt.xZ c.env st (u:Int)=some r):
 Calls Tryz.prog 119 #[.pointer (some ⟨t,0,none⟩),.int .i64 (u:Int)] W (gD c p t W0 O W r):=by
 have cq:=h.wk.val.few
 have eM:=mh h.wk.val hu
 have hlt:=Cs.bH h.wk.val hu
 have hl:=h.wk.vf.lens
 obtain⟨k,hk⟩:∃k,u/2=k:=⟨_,rfl⟩
 obtain⟨k1,k2⟩:=eC hk
 have hkm:k<c.es.length:=by omega
 have hback:back? c.env (u:Int)=some (decide (Df.at_ c.s.par (Cs.to c.es u)≠(u:Int))):=by
  unfold back?
  rw[eM.2]
  dsimp only[Option.bind_some]
  rw[at_at (l:=c.env.par) (v:=Cs.to c.es u) (by show _<c.s.par.length;rw[hl.1];exact hlt.2)]
  rfl
 unfold Lt.xZ at ho
 rw[hback,k1] at ho
 have x0:=h.cells.1
 have vM:=Nu.hid (oV h.now hu)
 have mW:=Nu.hid (aD.start h)
 cases hd:decide (Df.at_ c.s.par (Cs.to c.es u)≠(u:Int)) with
 |false=>
  rw[hd] at ho vM
  dsimp only at ho
  rw[eM.2] at ho
  cases ho
  have jx:Hid (∀V,Below W.heap.size W V→Calls Tryz.prog 100 #[.pointer (some ⟨p,0,none⟩),.int .i64 (u:Int)] V fun e w'=>e= .returned (.int .i64 (Cs.to c.es u:Int))∧w'=V):=fun V hV=>ur (h.later hV).now hu
  have HX:Hid (∀V,Below W.heap.size W V→V.cell? ⟨t,0,none⟩=some (.pointer (some ⟨p,0,none⟩))):=fun V hV=>(h.later hV).cells.1
  have C9:Hid (∀V,Below W.heap.size W V→Calls Tryz.prog 116 #[.pointer (some ⟨t,0,none⟩),.int .i64 (Cs.to c.es u:Int)] V fun e w'=>e= .returned (.tuple #[])∧aT c p t W0 O W (enter st (Cs.to c.es u:Int)) w'):=fun V hV=>(xC (h.later hV) _ hwl).mono fun e w' hp=>⟨hp.1,aT.pre h.aI.size hV hp.2⟩
  clear h hback hd eM hlt hl
  go_enter Tryz.func119,Tryz.ntmps119
  go_wp2_with (go_at_call 67;refine vM.out.mono ?_;rintro e1 w1 ⟨rfl,hb1⟩;have aV:=Nu.hid hb1;have y0:=HX.out w1 hb1;clear hb1 x0)
  go_at_call 100
  refine(jx.out _ aV.out).mono ?_
  rintro e1 w2 ⟨rfl,rfl⟩
  go_wp2_with (go_at_call 116;refine(C9.out _ aV.out).mono ?_;rintro e1 w3 ⟨rfl,hp⟩;have HP:=Nu.hid hp;clear hp)
  go_ret
  exact⟨rfl,HP.out⟩
 |true=>
  rw[hd] at ho vM
  dsimp only at ho
  cases gP:eT st.lowest (k:Int) (k:Int) with
  |none=>rw[gP] at ho;cases ho
  |some l2=>
   rw[gP] at ho
   dsimp only at ho
   obtain⟨kb,hkb,cT,rfl⟩:=jl gP
   obtain rfl:kb=k:=by omega
   have HO:=Nu.hid ho
   have HX:Hid (∀V,Below W.heap.size W V→V.cell? ⟨t,5,none⟩=some (.slice (some ⟨Z,0,none⟩) c.es.length c.es.length)∧(∃q,V.cell? ⟨Z,kb,none⟩=some (.int .i64 q))∧V.frozen? ⟨Z,kb,none⟩=false∧aD c p t W0 O W (fun _=>False) { st with lowest:=st.lowest.set kb (kb:Int) } (V.setCell ⟨Z,kb,none⟩ (.int .i64 (kb:Int)))):=fun V hV=>by
    have hT:=h.later hV
    refine⟨hT.cells.2.2.2.2.2.1,⟨_,nO hT.lowest cT⟩,hT.lowest.free kb,?_⟩
    obtain⟨k0,-,-,-⟩:=mW.out
    refine⟨k0,?_,O,fun b hb=> .inl hb,fun b hb=>hb.elim,L,U,Z,vp,vw,hT.sW kb kb⟩
    exact((aF.refl O W).later hV).setCell h.oZ _
   have v0:(0:Int)≤(kb:Int):=by omega
   have v1:(kb:Int)<(c.es.length:Int):=by omega
   have v2:(kb:Int)≤4194304:=by omega
   clear h hback hd eM hlt hl gP hkb cT ho
   go_enter Tryz.func119,Tryz.ntmps119
   go_wp2_with (go_at_call 67;refine vM.out.mono ?_;rintro e1 w1 ⟨rfl,hb1⟩;have aV:=Nu.hid hb1;obtain⟨z1,⟨zq,z2⟩,z3,zT⟩:=HX.out w1 hb1;have HZT:=Nu.hid zT;clear hb1 x0 zT)
   generalize hV:w1.setCell ⟨Z,kb,none⟩ (.int .i64 (kb:Int))=V at*
   clear z1 z2 z3 hV
   go_at_call 135
   refine(mg V).mono ?_
   rintro e1 w2 ⟨rfl,hb2⟩
   have fo:=Nu.hid (HZT.out.later hb2)
   clear hb2
   go_wp2_with fail
   have C2:=Nu.hid (aD.calls fo.out (fun b hb=>hb.elim) (f:=134) (args:= #[.pointer (some ⟨t,0,none⟩),fL (aP,((kb:Int),(kb:Int)))]) (R:=fun e=>e= .returned (.tuple #[])) (st':={ st with lowest:=st.lowest.set kb (kb:Int),stk:=(aP,((kb:Int),(kb:Int)))::st.stk }) (fun hT=>sU hT (aP,((kb:Int),(kb:Int))) (by dsimp only;omega)))
   go_at_call 134
   refine C2.out.mono ?_
   rintro e1 w3 ⟨rfl,g7,-⟩
   have SK:=Nu.hid (g7.says (f:=133) (args:= #[.pointer (some ⟨t,0,none⟩),.int .i64 (u:Int)]) (r:=r) (fun hT=>uB hT hu (by dsimp only[List.length_cons];omega) hwl HO.out))
   clear g7
   go_wp2_with fail
   go_at_call 133
   refine SK.out.mono ?_
   intro e1 w4 hp
   have HP:=Nu.hid hp
   clear hp SK HO
   cases r with
   |none=>
    obtain⟨st',rfl,hp⟩:=HP.out
    have ko:=Nu.hid hp
    clear hp HP
    go_wp2_with fail
    go_ret
    exact⟨st',rfl,ko.out⟩
   |some st'=>
    obtain⟨rfl,hp⟩:=HP.out
    have ko:=Nu.hid hp
    clear hp HP
    go_wp2_with fail
    go_ret
    exact⟨rfl,ko.out⟩
end
end
section
open Go.RowKit Lt
theorem sQ {lw:List Int} {h:Int}:∀{ps:List Pr} {turn:List Int} {qs:List Pr} {aZ:List Int},iK lw h ps turn=some (qs,aZ)→qs.length≤ps.length
 |[],turn,qs,aZ,e=>by
  cases e
  simp
 |p::ps,turn,qs,aZ,e=>by
  unfold iK at e
  by_cases e1:p=dI
  ·rw[if_pos e1] at e;cases e
  ·rw[if_neg e1] at e
   cases e2:least lw p with
   |none=>rw[e2] at e;cases e
   |some a=>
    rw[e2] at e
    dsimp only at e
    by_cases e3:a=h
    ·rw[if_pos e3] at e
     by_cases e4:p.1=aP
     ·rw[if_pos e4] at e
      have:=sQ e
      rw[List.length_cons]
      omega
     ·rw[if_neg e4] at e
      cases e5:eT turn p.1.2 (-1) with
      |none=>rw[e5] at e;cases e
      |some t2=>
       rw[e5] at e
       have:=sQ e
       rw[List.length_cons]
       omega
    ·rw[if_neg e3] at e
     cases e
     simp
theorem MO {lw:List Int} {h:Int} {st st':TS} (e:trim lw h st=some st'):st'.stk.length≤st.stk.length∧st'.way=st.way:=by
 unfold trim at e
 cases e1:iK lw h st.stk st.turn with
 |none=>rw[e1] at e;cases e
 |some q=>
  obtain⟨qs,t1⟩:=q
  have hl:=sQ e1
  rw[e1] at e
  cases qs with
  |nil=>
   cases e
   exact⟨by simp,rfl⟩
  |cons p ps=>
   dsimp only at e
   split at e
   ·cases e
   ·split at e
    ·cases e
    ·split at e
     ·cases e
     ·cases e
      exact⟨by simpa using hl,rfl⟩
section
variable {c:Wp} {p t:Nat} {W0 W wr:World} {O B:Nat→Prop} {st:TS} {L U Z:Nat} {vp vw:Value}
set_option maxRecDepth 100000 in
set_option maxHeartbeats 16000000 in
theorem FU (h:aQ c p t W0 O st L U Z vp vw W) {r:Option TS} (hlen:st.stk.length≤8388605) (hwl:st.way.length≤8388607) (ho:Lt.leave c.env st=some r):
 Calls Tryz.prog 117 #[.pointer (some ⟨t,0,none⟩)] W (gD c p t W0 O W r):=by
 unfold Lt.leave at ho
 cases hs:st.way with
 |nil=>rw[hs] at ho;cases ho
 |cons v ws=>
  rw[hs] at ho
  dsimp only at ho
  cases hp:bz c.env.par v.1 with
  |none=>rw[hp] at ho;cases ho
  |some x=>
   rw[hp] at ho
   dsimp only at ho
   obtain⟨i,hi,hil,hix⟩:=oH hp
   have hl:=h.wk.vf.lens
   have hin:i<c.n:=by rw[←hl.1];exact hil
   have hx:Df.at_ c.s.par i=x:=by
    have:c.s.par[i]? =some x:=hix
    unfold Df.at_
    simp[this]
   have cq:=h.wk.val.few
   obtain⟨bp,op,ep,pR⟩:=h.now.par hin
   have z2:=h.now.c2
   rw[ep] at z2
   have z3:=pR W (Below.refl _ _) i hin
   rw[hx] at z3
   obtain⟨z0,-,-,-,x3,-,xf⟩:=h.cells
   have bB:=h.way
   rw[hs,List.reverse_cons] at bB
   obtain⟨g,cap,rfl,hc,hcap,-,hown⟩:=bB.snoc oG
   rw[List.length_reverse] at x3 hcap hown hc
   have d0:=hc 0 (.int .i64 v.1) rfl
   have mJ:=h.way.lt (b:=g) rfl
   have bI:Hid (aD c p t W0 O W (fun _=>False) { st with way:=ws } ((W.setCell ⟨t,4,none⟩ (.slice (some ⟨g,0,none⟩) ws.length cap)).drew)):=by
    refine aD.drew ?_
    refine⟨⟨h.aI.size,fun b hb=>⟨h.oB b hb,h.oX b hb⟩,fun _ hb=>hb.elim⟩,(aF.refl O W).setCell h.oT _,_,fun b hb=>hb.1,fun _ hb=>hb.elim,L,U,Z,vp,_,(h.VU (W1:=W) h.aI (fun b _ _=>rfl) (Nat.le_refl _) hown (.inl rfl)).2.2⟩
   obtain⟨k,hk⟩:∃k,ws.length=k:=⟨_,rfl⟩
   rw[hk] at x3 hcap bI d0
   rw[hs,List.length_cons,hk] at hwl
   rw[hi] at d0
   rw[Nat.add_zero] at d0
   have e1:((k:Int)+1)-1=(k:Int):=by omega
   have e2:(0:Int)≤(k:Int):=by omega
   have e3:(k:Int)≤(cap:Int):=by omega
   have e4:(k:Int)<(k:Int)+1:=by omega
   have t0:(0:Int)≤(i:Int):=by omega
   have t1:(i:Int)<(c.n:Int):=by omega
   by_cases hx1:x= -1
   ·rw[if_pos hx1] at ho
    cases ho
    subst hx1
    clear h bB hs hp hc hk hown hl hix pR ep hi
    go_enter Tryz.func117,Tryz.ntmps117
    go_wp2_with fail
    go_big_region
    go_wp2_with fail
    go_ret
    exact⟨rfl,bI.out.post⟩
   ·rw[if_neg hx1] at ho
    obtain⟨u,hu,rfl⟩:∃u:Nat,u<2*c.es.length∧x=(u:Int):=by
     rcases h.wk.vf.hang i hin with ⟨q,-⟩|⟨w,hw,q,-⟩
     ·exact absurd (hx.symm.trans q) hx1
     ·exact⟨w,hw,hx.symm.trans q⟩
    have eM:=mh h.wk.val hu
    have hlt:=Cs.bH h.wk.val hu
    have A9:ya c.env (u:Int)=some (Df.at_ c.s.ay (Cs.fr c.es u)):=by
     unfold ya
     rw[eM.1]
     exact at_at (by show _<c.s.ay.length;rw[hl.2.1];exact hlt.1)
    rw[A9] at ho
    dsimp only at ho
    cases qH:trim c.env.lw (Df.at_ c.s.ay (Cs.fr c.es u)) { st with way:=ws } with
    |none=>rw[qH] at ho;cases ho
    |some fC=>
     rw[qH] at ho
     dsimp only at ho
     obtain⟨y,hy⟩:∃y,Df.at_ c.s.ay (Cs.fr c.es u)=y:=⟨_,rfl⟩
     rw[hy] at qH
     have AB:=MO qH
     dsimp only at AB
     have Te:Hid (fC.stk.length≤8388606∧fC.way.length≤8388607):=by
      refine⟨?_,?_⟩
      ·omega
      ·rw[AB.2,hk]
       omega
     have HBE:Hid (∀{V:World} {O':Nat→Prop} {L U Z:Nat} {vp vw:Value},aQ c p t W0 O' { st with way:=ws } L U Z vp vw V→Calls Tryz.prog 102 #[.pointer (some ⟨p,0,none⟩),.int .i64 (u:Int)] V fun e w'=>e= .returned (.int .i64 y)∧Below V.heap.size V w'):=fun hV=>by rw[←hy];exact uu hV.now hu
     have vG:=Nu.hid qH
     have HO:=Nu.hid ho
     have e5:((u:Int)== -1)=false:=by simp only[beq_eq_false_iff_ne,ne_eq];omega
     have BV:Hid (∀V,aD c p t W0 O W (fun _=>False) { st with way:=ws } V→V.cell? ⟨t,0,none⟩=some (.pointer (some ⟨p,0,none⟩))):=fun V hV=>by
      obtain⟨-,-,O',-,-,L,U,Z,vp,vw,h4⟩:=hV
      exact h4.cells.1
     have z5:=BV.out _ bI.out
     clear h bB hs hp hc hk hown hl hix pR ep hi qH ho AB A9 eM hlt hx hy hx1
     go_enter Tryz.func117,Tryz.ntmps117
     go_wp2_with fail
     go_big_region
     go_wp2_with fail
     generalize (W.setCell ⟨t,4,none⟩ (.slice (some ⟨g,0,none⟩) k cap)).drew=V at*
     clear z0 z2 z3 x3 xf d0
     have af7:=Nu.hid (aD.reads bI.out (fun b hb=>hb.elim) (f:=102) (args:= #[.pointer (some ⟨p,0,none⟩),.int .i64 (u:Int)]) (R:=fun e=>e= .returned (.int .i64 y)) (fun hT=>HBE.out hT))
     go_at_call 102
     refine af7.out.mono ?_
     rintro e1 w2 ⟨rfl,g8,-⟩
     have ae0:=Nu.hid (aD.calls g8 (fun b hb=>hb.elim) (f:=132) (args:= #[.pointer (some ⟨t,0,none⟩),.int .i64 y]) (R:=fun e=>e= .returned (.tuple #[])) (st':=fC) (fun hT=>Jf hT (by dsimp only;omega) vG.out))
     clear g8
     go_wp2_with fail
     go_at_call 132
     refine ae0.out.mono ?_
     rintro e1 w3 ⟨rfl,g7,-⟩
     have SK:=Nu.hid (g7.says (f:=133) (args:= #[.pointer (some ⟨t,0,none⟩),.int .i64 (u:Int)]) (r:=r) (fun hT=>uB hT hu Te.out.1 Te.out.2 HO.out))
     clear g7
     go_wp2_with fail
     go_at_call 133
     refine SK.out.mono ?_
     intro e1 w4 hp
     have HP:=Nu.hid hp
     clear hp SK HO
     cases r with
     |none=>
      obtain⟨st',rfl,hp⟩:=HP.out
      have ko:=Nu.hid hp
      clear hp HP
      go_wp2_with fail
      go_ret
      exact⟨st',rfl,ko.out⟩
     |some st'=>
      obtain⟨rfl,hp⟩:=HP.out
      have ko:=Nu.hid hp
      clear hp HP
      go_wp2_with fail
      go_ret
      exact⟨rfl,ko.out⟩
end
end
section
open Go.RowKit Lt
section
variable {α:Type} {T:TypeId} {k:Nat} {fl:α→List Value} {w:World} {B g c:Nat} {l:List α}
theorem dV.last (hk:∀x,(fl x).length=k) {x x':α} {j:Nat} {u:Value} (h:dV T k fl w B (.slice (some ⟨g,0,none⟩) (l.length+1) c) (l++[x])) (hx:fl x'=(fl x).set j u):dV T k fl (w.setCell ⟨g,l.length*k+j,none⟩ u) B (.slice (some ⟨g,0,none⟩) (l.length+1) c) (l++[x']):=by
 unfold dV at h ⊢
 rw[List.length_append,List.length_singleton,List.flatMap_append] at h ⊢
 have h1:=(World.ownsRow.stored h (l.length*k+j) u).1
 have hfl:=wT hk l
 rw[List.set_append_right _ _ (by omega),hfl,Nat.add_sub_cancel_left] at h1
 simp only[List.flatMap_cons,List.flatMap_nil,List.append_nil] at h1 ⊢
 rw[hx]
 exact h1
end
section
variable {c:Wp} {p t:Nat} {W0 W wr:World} {O B:Nat→Prop} {st:TS} {L U Z:Nat} {vp vw:Value}
theorem aQ.TR (h:aQ c p t W0 O st L U Z vp vw W) {v v':jw} {ws:List jw} {j:Nat} {u:Value} (hs:st.way=v::ws) {g cap:Nat} (hg:vw= .slice (some ⟨g,0,none⟩) (ws.length+1) cap) (hx:tM v'=(tM v).set j u):aQ c p t W0 O { st with way:=v'::ws } L U Z vp vw (W.setCell ⟨g,ws.length*6+j,none⟩ u):=by
 have hgb:vw.ownBlock=some g:=by rw[hg];rfl
 have hne:=h.n3 g hgb
 have hk:∀b,b≠g→(W.setCell ⟨g,ws.length*6+j,none⟩ u).heap[b]? =W.heap[b]? :=fun b hb=>heap_setCell_other W ⟨g,ws.length*6+j,none⟩ b _ hb
 refine⟨h.wk,h.aI.setCell (p:=⟨g,ws.length*6+j,none⟩) (h.oB g (h.oW g hgb)) _,(hk t (Ne.symm hne.1)).trans h.blk,(hk L (Ne.symm hne.2.1)).trans h.like,(hk U (Ne.symm hne.2.2.1)).trans h.turn,(hk Z (Ne.symm hne.2.2.2)).trans h.lowest,h.ll,h.lu,h.lz,?_,?_,h.oT,h.oL,h.oU,h.oZ,h.oP,h.oW,h.oB,fun b hb=>by simpa using h.oX b hb,h.n1,h.n2,h.n3,h.n4⟩
 ·exact h.qC.same fun b hb _=>hk b fun e=>h.n4 b hb (by rw[e];exact hgb)
 ·have h1:=h.way
  rw[hs,List.reverse_cons,hg] at h1
  have hlr:ws.reverse.length=ws.length:=List.length_reverse
  rw[hg]
  show dV 170 6 tM _ _ _ (v'::ws).reverse
  rw[List.reverse_cons]
  rw[←hlr] at h1 ⊢
  exact dV.last oG h1 hx
end
namespace Lt
open Pl
section
variable {n m:Nat} {T:DF n m} {E:Env} {oe:Nat→List Nat} {hf:Nat→Int} {lowest:List Int} {S:(Nat→Bool)→Prop}
theorem Mv:∀{s:List cI},(∀p∈s,¬(p.1=[]∧p.2=[]))→s.length≤(cG s).length
 |[],_=>Nat.zero_le _
 |p::s,h=>by
  have h1:=Mv (s:=s) fun q hq=>h q (List.mem_cons_of_mem _ hq)
  have h2:=h p List.mem_cons_self
  rw[aG,List.length_append,List.length_append,List.length_cons]
  have h3:0<p.1.length+p.2.length:=by
   obtain⟨a,b⟩:=p
   cases a with
   |cons _ _=>simp;omega
   |nil=>
    cases b with
    |cons _ _=>simp
    |nil=>exact absurd ⟨rfl,rfl⟩ h2
  omega
theorem yV.len:∀{ls:List Lv} {ws:List jw} {v:Nat},yV T E oe lowest S ls ws v→ws.length=ls.length∧∀l∈ls,l.v<n
 |[],[],_,_=>⟨rfl,fun l hl=>by simp at hl⟩
 |l::ls,w::ws,v,h=>by
  obtain⟨⟨c,k,h1,h2,h3,h4,h5⟩,h6,h7⟩:=h
  have h8:=yV.len h7
  refine⟨by rw[List.length_cons,List.length_cons,h8.1],fun l' hl=> ?_⟩
  rcases List.mem_cons.1 hl with q|q
  ·rw[q];exact h5.lt
  ·exact h8.2 l' q
 |[],_::_,_,h=>h.elim
 |_::_,[],_,h=>h.elim
theorem Inv.fits (hE:dN T E oe hf) {st:TS} {fin:Nat→Prop} {G:List Nat} {ls:List Lv} (h:Inv T E oe st fin G ls):st.stk.length≤m∧st.way.length=ls.length∧ls.length≤n:=by
 have hw:=h.way
 have key:(∀q∈flat ls,¬(q.1=[]∧q.2=[]))∧st.way.length=ls.length∧∀l∈ls,l.v<n:=by
  cases ls with
  |nil=>
   cases hs:st.way with
   |nil=>exact⟨fun q hq=>by simp[flat] at hq,rfl,fun l hl=>by simp at hl⟩
   |cons _ _=>rw[hs] at hw;exact hw.elim
  |cons l ls=>
   cases hs:st.way with
   |nil=>rw[hs] at hw;exact hw.elim
   |cons w ws=>
    rw[hs] at hw
    obtain⟨_,_,h3,h4⟩:=hw
    have h5:=h4.low hE h3.lt
    have h6:=h4.len
    refine⟨fun q hq=> ?_,by rw[List.length_cons,List.length_cons,h6.1],fun l' hl=> ?_⟩
    ·rw[bN] at hq
     rcases List.mem_append.1 hq with k1|k1
     ·exact h3.mZ.ne q k1
     ·exact h5.2.1 q k1
    ·rcases List.mem_cons.1 hl with q|q
     ·rw[q];exact h3.lt
     ·exact h6.2 l' q
 refine⟨?_,key.2.1,?_⟩
 ·rw[h.stk,List.length_map]
  have h1:=Mv key.1
  have h2:=fH h.lk.nd fun x hx=>h.lk.sm x (h.lk.sn x hx)
  omega
 ·have:=fH h.ln fun x hx=>by
   obtain⟨l,hl,rfl⟩:=List.mem_map.1 hx
   exact key.2.2 l hl
  rwa[List.length_map] at this
end
end Lt
end
end Go.Proofs.YtnhcggfbkoppnaaGreat
