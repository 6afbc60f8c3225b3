import Derived.Test.YtdjmnpmdmjclhabGreatMg24
import Derived.Test.YtdjmnpmdmjclhabGreatMg12
namespace Go.Proofs.YtdjmnpmdmjclhabGreat
section
open Go.RowKit Lt
theorem G0 {lw lowest:List Int} {above:Int} {bottom:Pr}:∀{ps:List Pr} {like:List Int} {o:Iv} {qs:List Pr} {aH:List Int} {i:Iv},Lt.own lw lowest above bottom ps like o=some (some (qs,aH,i))→qs.length≤ps.length
 |[],like,o,qs,aH,i,h=>by
  unfold Lt.own at h
  split at h
  ·cases h;simp
  ·cases h
 |q::ps,like,o,qs,aH,i,h=>by
  unfold Lt.own at h
  by_cases e1:q=bottom
  ·rw[if_pos e1] at h
   cases h
   simp
  ·rw[if_neg e1] at h
   by_cases e2:(if q.2=aO then q.2 else q.1)≠aO
   ·rw[if_pos e2] at h
    cases h
   ·rw[if_neg e2] at h
    generalize (if q.2=aO then q.1 else q.2)=X at h
    cases e3:bz lw X.2 with
    |none=>rw[e3] at h;cases h
    |some a=>
     cases e4:bz lw above with
     |none=>rw[e3,e4] at h;cases h
     |some b=>
      rw[e3,e4] at h
      dsimp only at h
      have fin:∀{eW:List Int} {o2:Iv},Lt.own lw lowest above bottom ps eW o2=some (some (qs,aH,i))→qs.length≤(q::ps).length:=fun h2=>by
       have:=G0 h2
       rw[aar]
       omega
      by_cases e5:a=b
      ·rw[if_pos e5] at h
       cases e6:bz lowest above with
       |none=>rw[e6] at h;cases h
       |some z=>
        rw[e6] at h
        dsimp only at h
        cases e7:eT like X.2 z with
        |none=>rw[e7] at h;cases h
        |some l2=>rw[e7] at h;exact fin h
      ·rw[if_neg e5] at h
       cases e6:join like o X with
       |none=>rw[e6] at h;cases h
       |some q2=>
        obtain⟨l2,o2⟩:=q2
        rw[e6] at h
        exact fin h
theorem yl {lw:List Int} {e:Int}:∀{ps:List Pr} {like:List Int} {p:Pr} {qs:List Pr} {aH:List Int} {i:Pr},others lw e ps like p=some (some (qs,aH,i))→qs.length≤ps.length
 |[],like,p,qs,aH,i,h=>by
  cases h
  simp
 |q::ps,like,p,qs,aH,i,h=>by
  unfold others at h
  cases e1:fT lw q.1 e with
  |none=>rw[e1] at h;cases h
  |some l=>
   cases e2:fT lw q.2 e with
   |none=>rw[e1,e2] at h;cases l<;>cases h
   |some r=>
    rw[e1,e2] at h
    have fin:∀{x:Pr},(match join like p.1 x.1 with|none=>none|some (eX,i1)=>match join eX p.2 x.2 with|none=>none|some (eW,i2)=>others lw e ps eW (i1,i2))=some (some (qs,aH,i))→qs.length≤(q::ps).length:=fun {x} h2=>by
     cases e3:join like p.1 x.1 with
     |none=>rw[e3] at h2;cases h2
     |some r1=>
      obtain⟨l1,i1⟩:=r1
      rw[e3] at h2
      dsimp only at h2
      cases e4:join l1 p.2 x.2 with
      |none=>rw[e4] at h2;cases h2
      |some r2=>
       obtain⟨l2,i2⟩:=r2
       rw[e4] at h2
       have:=yl h2
       rw[aar]
       omega
    cases l<;>cases r
    ·cases h;simp
    ·exact fin h
    ·exact fin h
    ·cases h
section
variable {c:Wp} {p t:Nat} {W0 W:World} {O:Nat→Prop} {st:TS} {L U Z:Nat} {vp vw:Value}
def gC (c:Wp) (p t:Nat) (W0:World) (O:Nat→Prop) (W:World) (r:Option TS) (e:Ending) (w':World):Prop:=
 match r with
 |none=>∃st',e= .returned (.bool false)∧aT c p t W0 O W st' w'
 |some st'=>e= .returned (.bool true)∧aT c p t W0 O W st' w'
noncomputable def Wp.env (c:Wp):Env:=⟨c.lw,Lo.bS c.n c.es c.s c.es.length,c.s.par,c.s.az,c.s.ord,c.s.aJ,c.es.map (·.1),c.es.map (·.2)⟩
theorem aT.later {V V':World} {st':TS} (h:aT c p t W0 O W st' V) (hb:Below V.heap.size V V'):aT c p t W0 O W st' V':=by
 obtain⟨h1,L',U',Z',o9,qA,h2⟩:=h
 have h3:=h2.later hb
 exact⟨h1.later hb,L',U',Z',o9,qA,h3.more (fun b hb'=>⟨hb'.1,h3.oX b hb'⟩) (fun b hb'=>by
  by_cases hv:b<V.heap.size
  ·exact h2.oB b ⟨hb'.1,hv⟩
  ·have:=h2.aI.size
   omega) (fun b hb'=>hb'.2)⟩
set_option maxRecDepth 100000 in
set_option maxHeartbeats 16000000 in
theorem JV (h:aR c p t W0 O st L U Z vp vw W) {e a:Nat} {r:Option TS} (hlen:st.stk.length≤8388606) (hwl:st.way.length≤8388607) (ho:Lt.kG c.env st e a=some r):
 Calls Tryz.prog 139 #[.pointer (some ⟨t,0,none⟩),.int .i64 (e:Int),.int .i64 (a:Int)] W (gC c p t W0 O W r):=by
 have VV:=SZ
 unfold Lt.kG at ho
 cases bB:st.way with
 |nil=>rw[bB] at ho;cases ho
 |cons v ws=>
  rw[bB] at ho
  dsimp only at ho
  cases h1:Lt.own c.env.lw st.lowest a v.2.2 st.stk st.like aO with
  |none=>rw[h1] at ho;cases ho
  |some r1=>
   have WL:=Nu.hid (DG h bB (by omega) hwl h1)
   rw[h1] at ho
   have hB0:=h.aI.size
   cases r1 with
   |none=>
    cases ho
    clear h bB h1
    go_enter Tryz.func139,Tryz.ntmps139
    go_wp2_with (go_at_call 157;refine WL.out.mono ?_;rintro e1 w1 ⟨i,fC,rfl,gQ⟩;have Du:=Nu.hid gQ;clear gQ)
    go_ret
    exact⟨fC,rfl,Du.out.later ((aae _ _).alloc (aad _) _)⟩
   |some q1=>
    obtain⟨ps,lk,oa,ob⟩:=q1
    dsimp only at ho
    have HO2:=Nu.hid (aD.calls (aD.start h) (fun b hb=>hb.elim) (f:=157) (args:= #[.pointer (some ⟨t,0,none⟩),.int .i64 (a:Int)]) (R:=fun e=>e= .returned (.tuple #[dF (oa,ob),.bool true])) (st':={ st with stk:=ps,like:=lk }) (fun hT=>DG hT bB (by omega) hwl h1))
    cases h2:others c.env.lw e ps lk (aO,(oa,ob)) with
    |none=>rw[h2] at ho;cases ho
    |some r2=>
     rw[h2] at ho
     have hpl:ps.length≤st.stk.length:=G0 h1
     have H2:=Nu.hid h2
     have vU:Hid (ps.length≤8388606):=by show ps.length≤8388606;omega
     have YS:=Nu.hid bB
     clear h1 h2 WL h bB hpl
     go_enter Tryz.func139,Tryz.ntmps139
     go_wp2_with (go_at_call 157;refine HO2.out.mono ?_;rintro e1 w1 ⟨rfl,mQ,-⟩;have nN:=Nu.hid mQ;clear mQ)
     obtain⟨b7,kY⟩:∃b7,w1.heap.size=b7:=⟨_,rfl⟩
     obtain⟨W2,hW2⟩:∃W2,W2=w1.alloc (kV (oa,ob)):=⟨_,rfl⟩
     have ig:aD c p t W0 O W (fun b=>b=b7) { st with stk:=ps,like:=lk } W2:=by
      rw[hW2]
      exact(nN.out.box _).less fun b hb=> .inr (by omega)
     have ID:W2.heap[b7]? =some (kV (oa,ob)):=by rw[hW2,←kY];exact heap_alloc_new _ _
     have hB2:∀b,b=b7→b<W2.heap.size:=fun b hb=>by have:=lt_of_block ID;omega
     have jD:=Nu.hid hW2
     have Dz:=Nu.hid kY
     cases r2 with
     |none=>
      cases ho
      have HOT:Hid (Calls Tryz.prog 158 #[.pointer (some ⟨t,0,none⟩),.int .i64 (e:Int),dF (oa,ob)] W2 fun r w'=>∃q st',r= .returned (.tuple #[fK q,.bool false])∧aT c p t W0 O W st' w'):=by
       obtain⟨⟨k0,k00,k01⟩,k1,O',k2,k3,L',U',Z',o9,qA,hT⟩:=ig
       refine(DI hT (oa,ob) (by have:=vU.out;dsimp only;omega) H2.out).mono fun r w' hr=> ?_
       obtain⟨q,st',e1,e2⟩:=hr
       refine⟨q,st',e1,?_⟩
       have hx:aD c p t W0 O W (fun _=>False) st' w':=by
        obtain⟨hw,L2,U2,Z2,Zw,Zu,h5⟩:=e2
        refine⟨⟨k0,k00,fun b hb=>hb.elim⟩,?_,_,fun b hb=> ?_,fun b hb=>hb.elim,L2,U2,Z2,Zw,Zu,h5⟩
        ·refine⟨hw.os.trans k1.os,hw.tape.trans k1.tape,hw.output.trans k1.output,abb k1.size hw.size,fun k hk hn=> ?_⟩
         have hs:=k1.size
         exact(hw.block k (by omega) (fun q=>(k2 k q).elim hn fun q=>by omega)).trans (k1.block k hk hn)
        ·have hs:=k1.size
         rcases hb.1 with q|q
         ·exact k2 b q
         ·exact .inr (by omega)
       exact hx.post
      change Calls _ _ _ (w1.alloc (kV (oa,ob))) _
      rw[←jD.out]
      clear ig ID hB2 hW2 kY
      go_at_call 158
      refine HOT.out.mono ?_
      rintro e1 w3 ⟨q,st',rfl,hp3⟩
      have Pk:=Nu.hid hp3
      clear hp3
      go_wp2_with fail
      obtain⟨W4,lM⟩:∃W4,W4=w3.alloc (bZ q):=⟨_,rfl⟩
      have HP4:Hid (aT c p t W0 O W st' W4):=by rw[lM];exact Pk.out.later ((aae _ _).alloc (aad _) _)
      change Code.wp _ _ _ _ (w3.alloc (bZ q))
      rw[←lM]
      have Rc:=LW.any W4
      clear lM
      refine aB (by kernel_rfl) (by kernel_rfl) ?_
      repeat (go_big_quiet_step (fail))
      refine wpQuiet_nil ?_
      rintro _ ⟨D,rfl⟩
      go_wp2
      go_ret
      exact⟨st',rfl,HP4.out.later D.h⟩
     |some q2=>
      obtain⟨qs,gG,⟨pa,pb⟩,pc,pd⟩:=q2
      have HOT:=Nu.hid (aD.calls ig hB2 (f:=158) (args:= #[.pointer (some ⟨t,0,none⟩),.int .i64 (e:Int),dF (oa,ob)]) (R:=fun e=>e= .returned (.tuple #[fK ((pa,pb),pc,pd),.bool true])) (st':={ st with stk:=qs,like:=gG }) (fun hT=>DI hT (oa,ob) (by have:=vU.out;dsimp only;omega) H2.out))
      have Ol:qs.length≤ps.length:=yl H2.out
      have HQL:Hid (qs.length≤8388606):=by show qs.length≤8388606;have:=vU.out;omega
      have ct:=Nu.hid hB2
      obtain⟨z0,z1,-⟩:=ay ID
      change Calls _ _ _ (w1.alloc (kV (oa,ob))) _
      rw[←jD.out]
      clear ig ID hB2 hW2 kY Ol z0 z1
      go_at_call 158
      refine HOT.out.mono ?_
      rintro e1 w3 ⟨rfl,g9,-⟩
      have ql:=Nu.hid g9
      clear g9
      go_wp2_with fail
      obtain⟨b9,gm⟩:∃b9,w3.heap.size=b9:=⟨_,rfl⟩
      obtain⟨W4,lM⟩:∃W4,W4=w3.alloc (bZ ((pa,pb),pc,pd)):=⟨_,rfl⟩
      have Iw:aD c p t W0 O W (fun b=>b=b9) { st with stk:=qs,like:=gG } W4:=by
       rw[lM]
       exact(ql.out.box _).less fun b hb=> .inr (by omega)
      have tS:W4.heap[b9]? =some (bZ ((pa,pb),pc,pd)):=by rw[lM,←gm];exact heap_alloc_new _ _
      have Ik:=lt_of_block tS
      have xN:Hid (∀D:LW W4,Calls Tryz.prog 108 #[] D.val fun e w'=>e= .returned (fK dG)∧Below D.val.heap.size D.val w'):=fun D=>oC D.val
      have y0:∀D:LW W4,D.val.cell? ⟨b9,0,none⟩=some (.int .i64 pa):=fun D=>(au ((D.h.block _ Ik).trans tS)).1
      have y1:∀D:LW W4,D.val.cell? ⟨b9,1,none⟩=some (.int .i64 pb):=fun D=>(au ((D.h.block _ Ik).trans tS)).2.1
      have y2:∀D:LW W4,D.val.cell? ⟨b9,2,none⟩=some (.int .i64 pc):=fun D=>(au ((D.h.block _ Ik).trans tS)).2.2.1
      have y3:∀D:LW W4,D.val.cell? ⟨b9,3,none⟩=some (.int .i64 pd):=fun D=>(au ((D.h.block _ Ik).trans tS)).2.2.2.1
      have Rc:=LW.any W4
      have qj:=Nu.hid Iw
      have Ul:=Nu.hid tS
      have om:=Nu.hid lM
      change Code.wp _ _ _ _ (w3.alloc (bZ ((pa,pb),pc,pd)))
      rw[←om.out,gm]
      clear Iw tS Ik lM gm
      by_cases hn:((pa,pb),pc,pd)=dG
      ·rw[if_pos hn] at ho
       cases ho
       have q1:pa= -1:=congrArg (fun x:Pr=>x.1.1) hn
       have q2:pb= -1:=congrArg (fun x:Pr=>x.1.2) hn
       have q3:pc= -1:=congrArg (fun x:Pr=>x.2.1) hn
       have q4:pd= -1:=congrArg (fun x:Pr=>x.2.2) hn
       subst q1
       subst q2
       subst q3
       subst q4
       clear hn
       refine aB (by kernel_rfl) (by kernel_rfl) ?_
       repeat (go_big_quiet_step ((first|(go_at_call 108;exact Calls.lw (xN.out _)))))
       refine wpQuiet_nil ?_
       rintro _ ⟨D,rfl⟩
       clear y0 y1 y2 y3
       go_wp2
       go_ret
       exact⟨rfl,by rw[←YS.out];exact(qj.out.later D.h).post⟩
      ·rw[if_neg hn] at ho
       cases ho
       have hdec:=G7 hn
       dsimp only at hdec
       clear hn
       refine aB (by kernel_rfl) (by kernel_rfl) ?_
       repeat (go_big_quiet_step ((first|(go_at_call 108;exact Calls.lw (xN.out _)))))
       refine wpQuiet_nil ?_
       rintro _ ⟨D,rfl⟩
       clear y0 y1 y2 y3
       have kX:=qj.out.later D.h
       have hb5:D.val.heap[b9]? =some (bZ ((pa,pb),pc,pd)):=(D.h.block _ (lt_of_block Ul.out)).trans Ul.out
       obtain⟨z0,z1,z2,z3,-⟩:=au hb5
       have Dt:=Nu.hid (aD.calls kX (fun b hb=>by have:=lt_of_block hb5;omega) (f:=111) (args:= #[.pointer (some ⟨t,0,none⟩),fK ((pa,pb),pc,pd)]) (R:=fun e=>e= .returned (.tuple #[])) (st':={ st with stk:=((pa,pb),pc,pd)::qs,like:=gG }) (fun hT=>tE hT ((pa,pb),pc,pd) (by have:=HQL.out;dsimp only;omega)))
       clear kX hb5
       go_wp2_with (go_at_call 111;refine Dt.out.mono ?_;rintro e1 w6 ⟨rfl,eY,-⟩;have rM:=Nu.hid eY;clear eY)
       go_ret
       exact⟨rfl,by rw[←YS.out];exact rM.out.post⟩
end
end
section
open Go.RowKit Lt
theorem mD {c:Wp} (hv:Si.Val c.n c.es) {u:Nat} (hu:u<2*c.es.length):Lh c.env (u:Int)=some (Cs.fr c.es u:Int)∧NA c.env (u:Int)=some (Cs.to c.es u:Int):=by
 obtain⟨k,hk⟩:∃k,u/2=k:=⟨_,rfl⟩
 obtain⟨q,hq⟩:∃q,c.es[k]? =some q:=⟨_,aac (by omega)⟩
 have hok:=hv.each k q hq
 unfold Si.ok at hok
 obtain⟨k1,-⟩:=eC hk
 have us:bz c.env.us (k:Int)=some q.1:=by
  unfold bz
  rw[if_pos (by omega)]
  show(c.es.map (·.1))[((k:Int)).toNat]? =_
  rw[show((k:Int)).toNat=k from by simp,aay,hq]
  rfl
 have vs:bz c.env.vs (k:Int)=some q.2:=by
  unfold bz
  rw[if_pos (by omega)]
  show(c.es.map (·.2))[((k:Int)).toNat]? =_
  rw[show((k:Int)).toNat=k from by simp,aay,hq]
  rfl
 unfold Lh NA
 rw[k1,us,vs]
 have hm:((u:Int)).tmod 2=((u%2:Nat):Int):=by rw[ab3 (by omega)];omega
 rw[hm]
 rcases acn u with e|e
 ·rw[e,if_pos (by simp),if_pos (by simp)]
  have h1:=Cs.iY hq
  rw[show 2*k=u by omega] at h1
  rw[h1.1,h1.2]
  exact⟨by congr 1;omega,by congr 1;omega⟩
 ·rw[e,if_neg (by simp),if_neg (by simp)]
  have h1:=Cs.nH hq
  rw[show 2*k+1=u by omega] at h1
  rw[h1.1,h1.2]
  exact⟨by congr 1;omega,by congr 1;omega⟩
theorem at_at {l:List Int} {v:Nat} (h:v<l.length):bz l (v:Int)=some (Df.at_ l v):=by
 unfold bz
 rw[if_pos (by omega)]
 show l[((v:Int)).toNat]? =_
 rw[show((v:Int)).toNat=v from by simp]
 unfold Df.at_
 simp[h]
section
variable {c:Wp} {p t:Nat} {W0 W:World} {O:Nat→Prop} {st:TS} {L U Z:Nat} {vp vw:Value}
theorem bV.outs (h:bV c p W) {v:Nat} {l:List Int} (hl:(Lo.bS c.n c.es c.s c.es.length)[v]? =some l):∃go co ao ca,c.vo= .slice (some ⟨go,0,none⟩) c.n co∧∀V,Below W.heap.size W V→V.cell? ⟨go,v,none⟩=some (.slice ao l.length ca)∧∀(i:Nat) (x:Int),l[i]? =some x→∃b,ao=some ⟨b,0,none⟩∧V.cell? ⟨b,i,none⟩=some (.int .i64 x):=by
 have hlen:=Lo.dw c.n c.es c.s c.es.length
 have dh:v<c.n:=by rw[←hlen];exact(aas.1 hl).1
 have ho:=h.out.outer
 rw[hlen] at ho
 rcases ho.2 with ⟨_,h0⟩|⟨go,co,cur,e,_⟩
 ·omega
 ·obtain⟨x,hx⟩:=h.out.S5 hl
  have hown:=h.out.row v x l hx hl
  rcases hown.2 with ⟨e2,h0⟩|⟨g,cap,alx,e2,_⟩
  ·refine⟨go,co,none,0,e,fun V hV=>⟨?_,fun i x hi=> ?_⟩⟩
   ·have h2:=(h.out.later hV).outer
    rw[hlen,e] at h2
    have:=abj h2 (g:=go) rfl v x hx
    have ea:((⟨go,0,none⟩:Addr).add v)=⟨go,v,none⟩:=by
     by_cases h0:v=0<;>simp[Addr.add,h0]
    rw[ea,e2] at this
    rw[h0]
    exact this
   ·have:=(aas.1 hi).1
    omega
  ·refine⟨go,co,some ⟨g,0,none⟩,cap,e,fun V hV=>⟨?_,fun i y hi=>⟨g,rfl,?_⟩⟩⟩
   ·have h2:=(h.out.later hV).outer
    rw[hlen,e] at h2
    have:=abj h2 (g:=go) rfl v x hx
    have ea:((⟨go,0,none⟩:Addr).add v)=⟨go,v,none⟩:=by
     by_cases h0:v=0<;>simp[Addr.add,h0]
    rw[ea,e2] at this
    exact this
   ·have h3:=hown.later hV
    unfold aP at h3
    rw[e2] at h3
    have:=abj h3 (g:=g) rfl i (.int .i64 y) (by rw[aay,hi];rfl)
    have ea:((⟨g,0,none⟩:Addr).add i)=⟨g,i,none⟩:=by
     by_cases h0:i=0<;>simp[Addr.add,h0]
    rw[ea] at this
    exact this
set_option maxRecDepth 100000 in
set_option maxHeartbeats 16000000 in
theorem uM (h:aR c p t W0 O st L U Z vp vw W) {u:Nat} (hu:u<2*c.es.length) {r:Option TS} (hlen:st.stk.length≤8388606) (hwl:st.way.length≤8388607) (ho:Lt.settle c.env st (u:Int)=some r):
 Calls Tryz.prog 110 #[.pointer (some ⟨t,0,none⟩),.int .i64 (u:Int)] W (gC c p t W0 O W r):=by
 have cj:=h.wk.val.few
 have hwk:=h.now
 have eM:=mD h.wk.val hu
 have hlt:=Cs.bH h.wk.val hu
 have hl:=h.wk.vf.lens
 obtain⟨k,hk⟩:∃k,u/2=k:=⟨_,rfl⟩
 obtain⟨k1,k2⟩:=eC hk
 have hkm:k<c.es.length:=by omega
 have dH:bz c.env.lw (k:Int)=some (Lo.low c.es c.s k):=by
  show bz c.lw (k:Int)=_
  rw[bz,if_pos (by omega)]
  show(upTo _ _)[((k:Int)).toNat]? =_
  rw[show((k:Int)).toNat=k from by simp]
  exact gT hkm
 have BF:yI c.env (u:Int)=some (Df.at_ c.s.az (Cs.fr c.es u)):=by
  unfold yI
  rw[eM.1]
  exact at_at (by show _<c.s.az.length;rw[hl.2.1];exact hlt.1)
 unfold Lt.settle at ho
 rw[k1,dH,BF] at ho
 dsimp only at ho
 have x0:=h.cells.1
 have uA:=Nu.hid (sP hwk hu)
 rw[hk] at uA
 by_cases g8:Lo.low c.es c.s k<Df.at_ c.s.az (Cs.fr c.es u)
 ·rw[if_pos g8] at ho
  have hd:decide (Lo.low c.es c.s k<Df.at_ c.s.az (Cs.fr c.es u))=true:=decide_eq_true g8
  rw[hd] at uA
  obtain⟨v,hv⟩:∃v,Cs.fr c.es u=v:=⟨_,rfl⟩
  have dh:v<c.n:=by rw[←hv];exact hlt.1
  obtain⟨x,hx⟩:∃x,Df.at_ c.s.par v=x:=⟨_,rfl⟩
  have hpar:bz c.env.par (v:Int)=some x:=by rw[←hx];exact at_at (by show _<c.s.par.length;rw[hl.1];exact dh)
  obtain⟨ab,hab,hx0,hx1⟩:∃ab:Nat,x.tdiv 2=(ab:Int)∧(ab:Int)≤8388608∧0≤(ab:Int):=by
   rcases h.wk.vf.hang v dh with ⟨e1,-⟩|⟨w,hw,e1,-⟩
   ·rw[e1] at hx
    subst hx
    exact⟨0,by decide,by omega,by omega⟩
   ·rw[e1] at hx
    subst hx
    exact⟨w/2,(eC rfl).1,by omega,by omega⟩
  rw[eM.1,hv] at ho
  dsimp only[Option.bind_some] at ho
  rw[hpar,show((v:Int)).toNat=v from by simp] at ho
  cases pT:c.env.outs[v]? with
  |none=>rw[pT] at ho;cases ho
  |some l=>
   rw[pT] at ho
   dsimp only[Option.bind_some] at ho
   cases hl0:l[0]? with
   |none=>rw[hl0] at ho;cases ho
   |some o=>
    rw[hl0] at ho
    dsimp only at ho
    rw[hab] at ho
    obtain⟨go,co,ao,ca,eo,lI⟩:=hwk.outs pT
    obtain⟨bp,op,ep,pW⟩:=hwk.par dh
    have hin:=aD.start h
    have ll:0<l.length:=(aas.1 hl0).1
    obtain⟨bo,ebo,-⟩:=(lI W (aae _ _)).2 0 o hl0
    have HF:Hid (∀V,Below W.heap.size W V→V.cell? ⟨t,0,none⟩=some (.pointer (some ⟨p,0,none⟩))∧V.cell? ⟨p,2,none⟩=some (.slice (some ⟨bp,op,none⟩) c.n c.f.c1)∧V.cell? ⟨bp,op+v,none⟩=some (.int .i64 x)∧V.cell? ⟨p,9,none⟩=some (.slice (some ⟨go,0,none⟩) c.n co)∧V.cell? ⟨go,v,none⟩=some (.slice (some ⟨bo,0,none⟩) l.length ca)∧V.cell? ⟨bo,0,none⟩=some (.int .i64 o)∧aR c p t W0 O st L U Z vp vw V):=fun V hV=>by
     have hT:=h.later hV
     have hW:=hwk.later hV
     obtain⟨q1,q2⟩:=lI V hV
     obtain⟨b2,e2,q3⟩:=q2 0 o hl0
     rw[ebo] at e2 q1
     cases e2
     have q4:=hW.c2
     rw[ep] at q4
     have q5:=hW.c9
     rw[eo] at q5
     exact⟨hT.cells.1,q4,by rw[←hx];exact pW V hV v dh,q5,q1,q3,hT⟩
    have jV:Hid (∀V,aR c p t W0 O st L U Z vp vw V→Calls Tryz.prog 70 #[.pointer (some ⟨p,0,none⟩),.int .i64 (u:Int)] V fun e w'=>e= .returned (.int .i64 (v:Int))∧w'=V):=fun V hV=>by rw[←hv];exact lZ hV.now hu
    have t0:(0:Int)≤(v:Int):=by omega
    have t1:(v:Int)<(c.n:Int):=by omega
    have t2:(0:Int)<(l.length:Int):=by omega
    have v0:(0:Int)≤(k:Int):=by omega
    have v1:(k:Int)<(c.es.length:Int):=by omega
    have v2:(k:Int)≤4194304:=by omega
    have hB0:=h.aI.size
    by_cases ho2:o=(u:Int)
    ·rw[if_pos ho2] at ho
     cases qY:bz st.lowest (k:Int) with
     |none=>rw[qY] at ho;cases ho
     |some y=>
      rw[qY] at ho
      dsimp only at ho
      cases hl2:eT st.lowest (ab:Int) y with
      |none=>rw[hl2] at ho;cases ho
      |some l2=>
       rw[hl2] at ho
       cases ho
       obtain⟨kb,hkb,cU,rfl⟩:=ju hl2
       obtain⟨ky,Rt,Yd,hyy⟩:=oJ qY
       obtain rfl:kb=ab:=by omega
       obtain rfl:ky=k:=by omega
       subst ho2
       have a1:(kb:Int)<(c.es.length:Int):=by rw[←h.lz];omega
       have HCE:Hid (∀V,Below W.heap.size W V→V.cell? ⟨t,5,none⟩=some (.slice (some ⟨Z,0,none⟩) c.es.length c.es.length)∧V.cell? ⟨Z,ky,none⟩=some (.int .i64 y)∧(∃q,V.cell? ⟨Z,kb,none⟩=some (.int .i64 q))∧V.frozen? ⟨Z,kb,none⟩=false∧aD c p t W0 O W (fun _=>False) { st with lowest:=st.lowest.set kb y } (V.setCell ⟨Z,kb,none⟩ (.int .i64 y))):=fun V hV=>by
        have hT:=h.later hV
        have q1:=nY hT.lowest Yd
        rw[hyy] at q1
        refine⟨hT.cells.2.2.2.2.2.1,q1,⟨_,nY hT.lowest cU⟩,hT.lowest.free kb,?_⟩
        obtain⟨k0,-,-,-⟩:=hin
        refine⟨k0,?_,O,fun b hb=> .inl hb,fun b hb=>hb.elim,L,U,Z,vp,vw,hT.tG kb y⟩
        exact((aC.refl O W).later hV).setCell h.oZ _
       clear h hwk g8 hd eM dH BF lI pW hin pT hl0 hlt hl hpar hx hv qY hl2 Rt hkb hyy cU Yd
       go_enter Tryz.func110,Tryz.ntmps110
       go_wp2_with (go_at_call 41;refine uA.out.mono ?_;rintro e1 w1 ⟨rfl,hb1⟩;have aY:=Nu.hid hb1;obtain⟨y0,y1,y2,y3,y4,y5,xT⟩:=HF.out w1 hb1;have nr:=Nu.hid xT;obtain⟨z1,z2,⟨zq,z3⟩,z4,zT⟩:=HCE.out w1 hb1;have HZT:=Nu.hid zT;clear hb1 xT x0 zT)
       go_at_call 70
       refine(jV.out _ nr.out).mono ?_
       rintro e1 w2 ⟨rfl,rfl⟩
       go_wp2_with fail
       clear y0 y1 y2 y3 y4 y5
       go_big_region
       go_wp2_with fail
       go_ret
       exact⟨rfl,HZT.out.drew.post⟩
    ·rw[if_neg ho2] at ho
     have HCO:Hid (∀V,Below W.heap.size W V→Calls Tryz.prog 139 #[.pointer (some ⟨t,0,none⟩),.int .i64 (k:Int),.int .i64 (ab:Int)] V (gC c p t W0 O W r)):=fun V hV=>by
      refine(JV (HF.out V hV).2.2.2.2.2.2 hlen hwl ho).mono fun e w' hp=> ?_
      cases r with
      |none=>
       obtain⟨st',e1,e2⟩:=hp
       exact⟨st',e1,aT.pre hB0 hV e2⟩
      |some st'=>exact⟨hp.1,aT.pre hB0 hV hp.2⟩
     clear h hwk g8 hd eM dH BF lI pW hin ho pT hl0 hlt hl hpar hx hv
     go_enter Tryz.func110,Tryz.ntmps110
     go_wp2_with (go_at_call 41;refine uA.out.mono ?_;rintro e1 w1 ⟨rfl,hb1⟩;have aY:=Nu.hid hb1;obtain⟨y0,y1,y2,y3,y4,y5,xT⟩:=HF.out w1 hb1;have nr:=Nu.hid xT;clear hb1 xT x0)
     go_at_call 70
     refine(jV.out _ nr.out).mono ?_
     rintro e1 w2 ⟨rfl,rfl⟩
     go_wp2_with fail
     go_at_call 139
     refine(HCO.out _ aY.out).mono ?_
     intro e1 w3 hp
     have HP:=Nu.hid hp
     clear hp
     cases r with
     |none=>
      obtain⟨st',rfl,hp⟩:=HP.out
      have kJ:=Nu.hid hp
      clear hp HP
      go_wp2_with fail
      go_ret
      exact⟨st',rfl,kJ.out⟩
     |some st'=>
      obtain⟨rfl,hp⟩:=HP.out
      have kJ:=Nu.hid hp
      clear hp HP
      go_wp2_with fail
      go_ret
      exact⟨rfl,kJ.out⟩
 ·rw[if_neg g8] at ho
  cases ho
  have hd:decide (Lo.low c.es c.s k<Df.at_ c.s.az (Cs.fr c.es u))=false:=decide_eq_false g8
  rw[hd] at uA
  have sO:=Nu.hid (aD.start h)
  clear h hwk g8 hd eM dH BF
  go_enter Tryz.func110,Tryz.ntmps110
  go_wp2_with (go_at_call 41;refine uA.out.mono ?_;rintro e1 w1 ⟨rfl,hb1⟩)
  go_ret
  exact⟨rfl,(sO.out.later hb1).post⟩
end
end
section
open Go.RowKit Lt
section
variable {c:Wp} {p t:Nat} {W0 W wr:World} {O B:Nat→Prop} {st:TS} {L U Z:Nat} {vp vw:Value}
theorem aD.back {O':Nat→Prop} {st':TS} {w':World} (h0:W0.heap.size≤W.heap.size∧(∀b,O b→W0.heap.size≤b∧b<W.heap.size)∧∀b,B b→W.heap.size≤b) (h1:aC O W wr) (h2:∀b,O' b→O b∨W.heap.size≤b) (h:aT c p t W0 O' wr st' w'):aT c p t W0 O W st' w':=by
 obtain⟨hw,L2,U2,Z2,Zw,Zu,h5⟩:=h
 have hx:aD c p t W0 O W (fun _=>False) st' w':=by
  refine⟨⟨h0.1,h0.2.1,fun b hb=>hb.elim⟩,?_,_,fun b hb=> ?_,fun b hb=>hb.elim,L2,U2,Z2,Zw,Zu,h5⟩
  ·refine⟨hw.os.trans h1.os,hw.tape.trans h1.tape,hw.output.trans h1.output,abb h1.size hw.size,fun k hk hn=> ?_⟩
   have hs:=h1.size
   exact(hw.block k (by omega) (fun q=>(h2 k q).elim hn fun q=>by omega)).trans (h1.block k hk hn)
  ·have hs:=h1.size
   rcases hb.1 with q|q
   ·exact h2 b q
   ·exact .inr (by omega)
 exact hx.post
theorem aD.says {f:FuncId} {args:Array Value} {r:Option TS} (h:aD c p t W0 O W B st wr)
 (hc:∀{O':Nat→Prop} {L U Z:Nat} {vp vw:Value},aR c p t W0 O' st L U Z vp vw wr→Calls Tryz.prog f args wr (gC c p t W0 O' wr r)):
 Calls Tryz.prog f args wr (gC c p t W0 O W r):=by
 obtain⟨h0,h1,O',h2,h3,L,U,Z,vp,vw,h4⟩:=h
 refine(hc h4).mono fun e w' hp=> ?_
 cases r with
 |none=>
  obtain⟨st',e1,e2⟩:=hp
  exact⟨st',e1,aD.back h0 h1 h2 e2⟩
 |some st'=>exact⟨hp.1,aD.back h0 h1 h2 hp.2⟩
set_option maxRecDepth 100000 in
set_option maxHeartbeats 16000000 in
theorem PM (h:aR c p t W0 O st L U Z vp vw W) {u:Nat} (hu:u<2*c.es.length) {r:Option TS} (hlen:st.stk.length≤8388605) (hwl:st.way.length≤8388607) (ho:Lt.yF c.env st (u:Int)=some r):
 Calls Tryz.prog 84 #[.pointer (some ⟨t,0,none⟩),.int .i64 (u:Int)] W (gC c p t W0 O W r):=by
 have cj:=h.wk.val.few
 have eM:=mD h.wk.val hu
 have hlt:=Cs.bH h.wk.val hu
 have hl:=h.wk.vf.lens
 obtain⟨k,hk⟩:∃k,u/2=k:=⟨_,rfl⟩
 obtain⟨k1,k2⟩:=eC hk
 have hkm:k<c.es.length:=by omega
 have hback:back? c.env (u:Int)=some (decide (Df.at_ c.s.par (Cs.to c.es u)≠(u:Int))):=by
  unfold back?
  rw[eM.2]
  dsimp only[Option.bind_some]
  rw[at_at (l:=c.env.par) (v:=Cs.to c.es u) (by show _<c.s.par.length;rw[hl.1];exact hlt.2)]
  rfl
 unfold Lt.yF at ho
 rw[hback,k1] at ho
 have x0:=h.cells.1
 have wj:=Nu.hid (o8 h.now hu)
 have sO:=Nu.hid (aD.start h)
 cases hd:decide (Df.at_ c.s.par (Cs.to c.es u)≠(u:Int)) with
 |false=>
  rw[hd] at ho wj
  dsimp only at ho
  rw[eM.2] at ho
  cases ho
  have jF:Hid (∀V,Below W.heap.size W V→Calls Tryz.prog 65 #[.pointer (some ⟨p,0,none⟩),.int .i64 (u:Int)] V fun e w'=>e= .returned (.int .i64 (Cs.to c.es u:Int))∧w'=V):=fun V hV=>uH (h.later hV).now hu
  have HX:Hid (∀V,Below W.heap.size W V→V.cell? ⟨t,0,none⟩=some (.pointer (some ⟨p,0,none⟩))):=fun V hV=>(h.later hV).cells.1
  have Dy:Hid (∀V,Below W.heap.size W V→Calls Tryz.prog 81 #[.pointer (some ⟨t,0,none⟩),.int .i64 (Cs.to c.es u:Int)] V fun e w'=>e= .returned (.tuple #[])∧aT c p t W0 O W (enter st (Cs.to c.es u:Int)) w'):=fun V hV=>(xY (h.later hV) _ hwl).mono fun e w' hp=>⟨hp.1,aT.pre h.aI.size hV hp.2⟩
  clear h hback hd eM hlt hl
  go_enter Tryz.func84,Tryz.ntmps84
  go_wp2_with (go_at_call 38;refine wj.out.mono ?_;rintro e1 w1 ⟨rfl,hb1⟩;have aY:=Nu.hid hb1;have y0:=HX.out w1 hb1;clear hb1 x0)
  go_at_call 65
  refine(jF.out _ aY.out).mono ?_
  rintro e1 w2 ⟨rfl,rfl⟩
  go_wp2_with (go_at_call 81;refine(Dy.out _ aY.out).mono ?_;rintro e1 w3 ⟨rfl,hp⟩;have HP:=Nu.hid hp;clear hp)
  go_ret
  exact⟨rfl,HP.out⟩
 |true=>
  rw[hd] at ho wj
  dsimp only at ho
  cases gQ:eT st.lowest (k:Int) (k:Int) with
  |none=>rw[gQ] at ho;cases ho
  |some l2=>
   rw[gQ] at ho
   dsimp only at ho
   obtain⟨kb,hkb,cU,rfl⟩:=ju gQ
   obtain rfl:kb=k:=by omega
   have HO:=Nu.hid ho
   have HX:Hid (∀V,Below W.heap.size W V→V.cell? ⟨t,5,none⟩=some (.slice (some ⟨Z,0,none⟩) c.es.length c.es.length)∧(∃q,V.cell? ⟨Z,kb,none⟩=some (.int .i64 q))∧V.frozen? ⟨Z,kb,none⟩=false∧aD c p t W0 O W (fun _=>False) { st with lowest:=st.lowest.set kb (kb:Int) } (V.setCell ⟨Z,kb,none⟩ (.int .i64 (kb:Int)))):=fun V hV=>by
    have hT:=h.later hV
    refine⟨hT.cells.2.2.2.2.2.1,⟨_,nY hT.lowest cU⟩,hT.lowest.free kb,?_⟩
    obtain⟨k0,-,-,-⟩:=sO.out
    refine⟨k0,?_,O,fun b hb=> .inl hb,fun b hb=>hb.elim,L,U,Z,vp,vw,hT.tG kb kb⟩
    exact((aC.refl O W).later hV).setCell h.oZ _
   have v0:(0:Int)≤(kb:Int):=by omega
   have v1:(kb:Int)<(c.es.length:Int):=by omega
   have v2:(kb:Int)≤4194304:=by omega
   clear h hback hd eM hlt hl gQ hkb cU ho
   go_enter Tryz.func84,Tryz.ntmps84
   go_wp2_with (go_at_call 38;refine wj.out.mono ?_;rintro e1 w1 ⟨rfl,hb1⟩;have aY:=Nu.hid hb1;obtain⟨z1,⟨zq,z2⟩,z3,zT⟩:=HX.out w1 hb1;have HZT:=Nu.hid zT;clear hb1 x0 zT)
   generalize hV:w1.setCell ⟨Z,kb,none⟩ (.int .i64 (kb:Int))=V at*
   clear z1 z2 z3 hV
   go_at_call 112
   refine(mC V).mono ?_
   rintro e1 w2 ⟨rfl,hb2⟩
   have fq:=Nu.hid (HZT.out.later hb2)
   clear hb2
   go_wp2_with fail
   have Dt:=Nu.hid (aD.calls fq.out (fun b hb=>hb.elim) (f:=111) (args:= #[.pointer (some ⟨t,0,none⟩),fK (aO,((kb:Int),(kb:Int)))]) (R:=fun e=>e= .returned (.tuple #[])) (st':={ st with lowest:=st.lowest.set kb (kb:Int),stk:=(aO,((kb:Int),(kb:Int)))::st.stk }) (fun hT=>tE hT (aO,((kb:Int),(kb:Int))) (by dsimp only;omega)))
   go_at_call 111
   refine Dt.out.mono ?_
   rintro e1 w3 ⟨rfl,g9,-⟩
   have TC:=Nu.hid (g9.says (f:=110) (args:= #[.pointer (some ⟨t,0,none⟩),.int .i64 (u:Int)]) (r:=r) (fun hT=>uM hT hu (by dsimp only[List.length_cons];omega) hwl HO.out))
   clear g9
   go_wp2_with fail
   go_at_call 110
   refine TC.out.mono ?_
   intro e1 w4 hp
   have HP:=Nu.hid hp
   clear hp TC HO
   cases r with
   |none=>
    obtain⟨st',rfl,hp⟩:=HP.out
    have kJ:=Nu.hid hp
    clear hp HP
    go_wp2_with fail
    go_ret
    exact⟨st',rfl,kJ.out⟩
   |some st'=>
    obtain⟨rfl,hp⟩:=HP.out
    have kJ:=Nu.hid hp
    clear hp HP
    go_wp2_with fail
    go_ret
    exact⟨rfl,kJ.out⟩
end
end
section
open Go.RowKit Lt
theorem tD {lw:List Int} {h:Int}:∀{ps:List Pr} {turn:List Int} {qs:List Pr} {aZ:List Int},iO lw h ps turn=some (qs,aZ)→qs.length≤ps.length
 |[],turn,qs,aZ,e=>by
  cases e
  simp
 |p::ps,turn,qs,aZ,e=>by
  unfold iO at e
  by_cases e1:p=dG
  ·rw[if_pos e1] at e;cases e
  ·rw[if_neg e1] at e
   cases e2:least lw p with
   |none=>rw[e2] at e;cases e
   |some a=>
    rw[e2] at e
    dsimp only at e
    by_cases e3:a=h
    ·rw[if_pos e3] at e
     by_cases e4:p.1=aO
     ·rw[if_pos e4] at e
      have:=tD e
      rw[aar]
      omega
     ·rw[if_neg e4] at e
      cases e5:eT turn p.1.2 (-1) with
      |none=>rw[e5] at e;cases e
      |some t2=>
       rw[e5] at e
       have:=tD e
       rw[aar]
       omega
    ·rw[if_neg e3] at e
     cases e
     simp
theorem Nt {lw:List Int} {h:Int} {st st':TS} (e:trim lw h st=some st'):st'.stk.length≤st.stk.length∧st'.way=st.way:=by
 unfold trim at e
 cases e1:iO lw h st.stk st.turn with
 |none=>rw[e1] at e;cases e
 |some q=>
  obtain⟨qs,t1⟩:=q
  have hl:=tD e1
  rw[e1] at e
  cases qs with
  |nil=>
   cases e
   exact⟨by simp,rfl⟩
  |cons p ps=>
   dsimp only at e
   split at e
   ·cases e
   ·split at e
    ·cases e
    ·split at e
     ·cases e
     ·cases e
      exact⟨by simpa using hl,rfl⟩
section
variable {c:Wp} {p t:Nat} {W0 W wr:World} {O B:Nat→Prop} {st:TS} {L U Z:Nat} {vp vw:Value}
set_option maxRecDepth 100000 in
set_option maxHeartbeats 16000000 in
theorem Gv (h:aR c p t W0 O st L U Z vp vw W) {r:Option TS} (hlen:st.stk.length≤8388605) (hwl:st.way.length≤8388607) (ho:Lt.leave c.env st=some r):
 Calls Tryz.prog 82 #[.pointer (some ⟨t,0,none⟩)] W (gC c p t W0 O W r):=by
 unfold Lt.leave at ho
 cases hs:st.way with
 |nil=>rw[hs] at ho;cases ho
 |cons v ws=>
  rw[hs] at ho
  dsimp only at ho
  cases hp:bz c.env.par v.1 with
  |none=>rw[hp] at ho;cases ho
  |some x=>
   rw[hp] at ho
   dsimp only at ho
   obtain⟨i,hi,hil,hix⟩:=oJ hp
   have hl:=h.wk.vf.lens
   have hin:i<c.n:=by rw[←hl.1];exact hil
   have hx:Df.at_ c.s.par i=x:=by
    have:c.s.par[i]? =some x:=hix
    unfold Df.at_
    simp[this]
   have cj:=h.wk.val.few
   obtain⟨bp,op,ep,pW⟩:=h.now.par hin
   have z2:=h.now.c2
   rw[ep] at z2
   have z3:=pW W (aae _ _) i hin
   rw[hx] at z3
   obtain⟨z0,-,-,-,x3,-,xf⟩:=h.cells
   have bB:=h.way
   rw[hs,abm] at bB
   obtain⟨g,cap,rfl,hc,hcap,-,hown⟩:=bB.snoc oI
   rw[abg] at x3 hcap hown hc
   have d0:=hc 0 (.int .i64 v.1) rfl
   have mS:=h.way.lt (b:=g) rfl
   have bI:Hid (aD c p t W0 O W (fun _=>False) { st with way:=ws } ((W.setCell ⟨t,4,none⟩ (.slice (some ⟨g,0,none⟩) ws.length cap)).drew)):=by
    refine aD.drew ?_
    refine⟨⟨h.aI.size,fun b hb=>⟨h.oB b hb,h.oX b hb⟩,fun _ hb=>hb.elim⟩,(aC.refl O W).setCell h.oT _,_,fun b hb=>hb.1,fun _ hb=>hb.elim,L,U,Z,vp,_,(h.Xg (W1:=W) h.aI (fun b _ _=>rfl) (aad _) hown (.inl rfl)).2.2⟩
   obtain⟨k,hk⟩:∃k,ws.length=k:=⟨_,rfl⟩
   rw[hk] at x3 hcap bI d0
   rw[hs,aar,hk] at hwl
   rw[hi] at d0
   rw[Nat.add_zero] at d0
   have e1:((k:Int)+1)-1=(k:Int):=by omega
   have e2:(0:Int)≤(k:Int):=by omega
   have e3:(k:Int)≤(cap:Int):=by omega
   have e4:(k:Int)<(k:Int)+1:=by omega
   have t0:(0:Int)≤(i:Int):=by omega
   have t1:(i:Int)<(c.n:Int):=by omega
   by_cases hx1:x= -1
   ·rw[if_pos hx1] at ho
    cases ho
    subst hx1
    clear h bB hs hp hc hk hown hl hix pW ep hi
    go_enter Tryz.func82,Tryz.ntmps82
    go_wp2_with fail
    go_big_region
    go_wp2_with fail
    go_ret
    exact⟨rfl,bI.out.post⟩
   ·rw[if_neg hx1] at ho
    obtain⟨u,hu,rfl⟩:∃u:Nat,u<2*c.es.length∧x=(u:Int):=by
     rcases h.wk.vf.hang i hin with ⟨q,-⟩|⟨w,hw,q,-⟩
     ·exact absurd (hx.symm.trans q) hx1
     ·exact⟨w,hw,hx.symm.trans q⟩
    have eM:=mD h.wk.val hu
    have hlt:=Cs.bH h.wk.val hu
    have BF:yI c.env (u:Int)=some (Df.at_ c.s.az (Cs.fr c.es u)):=by
     unfold yI
     rw[eM.1]
     exact at_at (by show _<c.s.az.length;rw[hl.2.1];exact hlt.1)
    rw[BF] at ho
    dsimp only at ho
    cases qP:trim c.env.lw (Df.at_ c.s.az (Cs.fr c.es u)) { st with way:=ws } with
    |none=>rw[qP] at ho;cases ho
    |some fC=>
     rw[qP] at ho
     dsimp only at ho
     obtain⟨y,hy⟩:∃y,Df.at_ c.s.az (Cs.fr c.es u)=y:=⟨_,rfl⟩
     rw[hy] at qP
     have wY:=Nt qP
     dsimp only at wY
     have Ub:Hid (fC.stk.length≤8388606∧fC.way.length≤8388607):=by
      refine⟨?_,?_⟩
      ·omega
      ·rw[wY.2,hk]
       omega
     have HBE:Hid (∀{V:World} {O':Nat→Prop} {L U Z:Nat} {vp vw:Value},aR c p t W0 O' { st with way:=ws } L U Z vp vw V→Calls Tryz.prog 67 #[.pointer (some ⟨p,0,none⟩),.int .i64 (u:Int)] V fun e w'=>e= .returned (.int .i64 y)∧Below V.heap.size V w'):=fun hV=>by rw[←hy];exact uI hV.now hu
     have vR:=Nu.hid qP
     have HO:=Nu.hid ho
     have e5:((u:Int)== -1)=false:=by simp only[beq_eq_false_iff_ne,ne_eq];omega
     have Cm:Hid (∀V,aD c p t W0 O W (fun _=>False) { st with way:=ws } V→V.cell? ⟨t,0,none⟩=some (.pointer (some ⟨p,0,none⟩))):=fun V hV=>by
      obtain⟨-,-,O',-,-,L,U,Z,vp,vw,h4⟩:=hV
      exact h4.cells.1
     have z5:=Cm.out _ bI.out
     clear h bB hs hp hc hk hown hl hix pW ep hi qP ho wY BF eM hlt hx hy hx1
     go_enter Tryz.func82,Tryz.ntmps82
     go_wp2_with fail
     go_big_region
     go_wp2_with fail
     generalize (W.setCell ⟨t,4,none⟩ (.slice (some ⟨g,0,none⟩) k cap)).drew=V at*
     clear z0 z2 z3 x3 xf d0
     have ahk:=Nu.hid (aD.reads bI.out (fun b hb=>hb.elim) (f:=67) (args:= #[.pointer (some ⟨p,0,none⟩),.int .i64 (u:Int)]) (R:=fun e=>e= .returned (.int .i64 y)) (fun hT=>HBE.out hT))
     go_at_call 67
     refine ahk.out.mono ?_
     rintro e1 w2 ⟨rfl,ig,-⟩
     have agb:=Nu.hid (aD.calls ig (fun b hb=>hb.elim) (f:=109) (args:= #[.pointer (some ⟨t,0,none⟩),.int .i64 y]) (R:=fun e=>e= .returned (.tuple #[])) (st':=fC) (fun hT=>JM hT (by dsimp only;omega) vR.out))
     clear ig
     go_wp2_with fail
     go_at_call 109
     refine agb.out.mono ?_
     rintro e1 w3 ⟨rfl,g9,-⟩
     have TC:=Nu.hid (g9.says (f:=110) (args:= #[.pointer (some ⟨t,0,none⟩),.int .i64 (u:Int)]) (r:=r) (fun hT=>uM hT hu Ub.out.1 Ub.out.2 HO.out))
     clear g9
     go_wp2_with fail
     go_at_call 110
     refine TC.out.mono ?_
     intro e1 w4 hp
     have HP:=Nu.hid hp
     clear hp TC HO
     cases r with
     |none=>
      obtain⟨st',rfl,hp⟩:=HP.out
      have kJ:=Nu.hid hp
      clear hp HP
      go_wp2_with fail
      go_ret
      exact⟨st',rfl,kJ.out⟩
     |some st'=>
      obtain⟨rfl,hp⟩:=HP.out
      have kJ:=Nu.hid hp
      clear hp HP
      go_wp2_with fail
      go_ret
      exact⟨rfl,kJ.out⟩
end
end
section
open Go.RowKit Lt
section
variable {α:Type} {T:TypeId} {k:Nat} {fl:α→List Value} {w:World} {B g c:Nat} {l:List α}
theorem dU.last (hk:∀x,(fl x).length=k) {x x':α} {j:Nat} {u:Value} (h:dU T k fl w B (.slice (some ⟨g,0,none⟩) (l.length+1) c) (l++[x])) (hx:fl x'=(fl x).set j u):dU T k fl (w.setCell ⟨g,l.length*k+j,none⟩ u) B (.slice (some ⟨g,0,none⟩) (l.length+1) c) (l++[x']):=by
 unfold dU at h ⊢
 rw[aaA,abn,acS] at h ⊢
 have h1:=(World.ownsRow.stored h (l.length*k+j) u).1
 have hfl:=xB hk l
 rw[ade _ _ (by omega),hfl,Nat.add_sub_cancel_left] at h1
 simp only[adz,List.flatMap_nil,abf] at h1 ⊢
 rw[hx]
 exact h1
end
section
variable {c:Wp} {p t:Nat} {W0 W wr:World} {O B:Nat→Prop} {st:TS} {L U Z:Nat} {vp vw:Value}
theorem aR.UN (h:aR c p t W0 O st L U Z vp vw W) {v v':jC} {ws:List jC} {j:Nat} {u:Value} (hs:st.way=v::ws) {g cap:Nat} (hg:vw= .slice (some ⟨g,0,none⟩) (ws.length+1) cap) (hx:tW v'=(tW v).set j u):aR c p t W0 O { st with way:=v'::ws } L U Z vp vw (W.setCell ⟨g,ws.length*6+j,none⟩ u):=by
 have hgb:vw.ownBlock=some g:=by rw[hg];rfl
 have hne:=h.n3 g hgb
 have hk:∀b,b≠g→(W.setCell ⟨g,ws.length*6+j,none⟩ u).heap[b]? =W.heap[b]? :=fun b hb=>heap_setCell_other W ⟨g,ws.length*6+j,none⟩ b _ hb
 refine⟨h.wk,h.aI.setCell (p:=⟨g,ws.length*6+j,none⟩) (h.oB g (h.oW g hgb)) _,(hk t (aaR hne.1)).trans h.blk,(hk L (aaR hne.2.1)).trans h.like,(hk U (aaR hne.2.2.1)).trans h.turn,(hk Z (aaR hne.2.2.2)).trans h.lowest,h.ll,h.lu,h.lz,?_,?_,h.oT,h.oL,h.oU,h.oZ,h.oP,h.oW,h.oB,fun b hb=>by simpa using h.oX b hb,h.n1,h.n2,h.n3,h.n4⟩
 ·exact h.qJ.same fun b hb _=>hk b fun e=>h.n4 b hb (by rw[e];exact hgb)
 ·have h1:=h.way
  rw[hs,abm,hg] at h1
  have hlr:ws.reverse.length=ws.length:=abg
  rw[hg]
  show dU 145 6 tW _ _ _ (v'::ws).reverse
  rw[abm]
  rw[←hlr] at h1 ⊢
  exact dU.last oI h1 hx
end
namespace Lt
open Pl
section
variable {n m:Nat} {T:DF n m} {E:Env} {oe:Nat→List Nat} {hf:Nat→Int} {lowest:List Int} {S:(Nat→Bool)→Prop}
theorem M4:∀{s:List cJ},(∀p∈s,¬(p.1=[]∧p.2=[]))→s.length≤(cH s).length
 |[],_=>aax _
 |p::s,h=>by
  have h1:=M4 (s:=s) fun q hq=>h q (aah _ hq)
  have h2:=h p aag
  rw[aG,aaA,aaA,aar]
  have h3:0<p.1.length+p.2.length:=by
   obtain⟨a,b⟩:=p
   cases a with
   |cons _ _=>simp;omega
   |nil=>
    cases b with
    |cons _ _=>simp
    |nil=>exact absurd ⟨rfl,rfl⟩ h2
  omega
theorem zK.len:∀{ls:List Lv} {ws:List jC} {v:Nat},zK T E oe lowest S ls ws v→ws.length=ls.length∧∀l∈ls,l.v<n
 |[],[],_,_=>⟨rfl,fun l hl=>by simp at hl⟩
 |l::ls,w::ws,v,h=>by
  obtain⟨⟨c,k,h1,h2,h3,h4,h5⟩,h6,h7⟩:=h
  have h8:=zK.len h7
  refine⟨by rw[aar,aar,h8.1],fun l' hl=> ?_⟩
  rcases aaj.1 hl with q|q
  ·rw[q];exact h5.lt
  ·exact h8.2 l' q
 |[],_::_,_,h=>h.elim
 |_::_,[],_,h=>h.elim
theorem Inv.fits (hE:dM T E oe hf) {st:TS} {fin:Nat→Prop} {G:List Nat} {ls:List Lv} (h:Inv T E oe st fin G ls):st.stk.length≤m∧st.way.length=ls.length∧ls.length≤n:=by
 have hw:=h.way
 have key:(∀q∈flat ls,¬(q.1=[]∧q.2=[]))∧st.way.length=ls.length∧∀l∈ls,l.v<n:=by
  cases ls with
  |nil=>
   cases hs:st.way with
   |nil=>exact⟨fun q hq=>by simp[flat] at hq,rfl,fun l hl=>by simp at hl⟩
   |cons _ _=>rw[hs] at hw;exact hw.elim
  |cons l ls=>
   cases hs:st.way with
   |nil=>rw[hs] at hw;exact hw.elim
   |cons w ws=>
    rw[hs] at hw
    obtain⟨_,_,h3,h4⟩:=hw
    have h5:=h4.low hE h3.lt
    have h6:=h4.len
    refine⟨fun q hq=> ?_,by rw[aar,aar,h6.1],fun l' hl=> ?_⟩
    ·rw[bN] at hq
     rcases aal.1 hq with k1|k1
     ·exact h3.nk.ne q k1
     ·exact h5.2.1 q k1
    ·rcases aaj.1 hl with q|q
     ·rw[q];exact h3.lt
     ·exact h6.2 l' q
 refine⟨?_,key.2.1,?_⟩
 ·rw[h.stk,aa3]
  have h1:=M4 key.1
  have h2:=fG h.lk.nd fun x hx=>h.lk.sm x (h.lk.sn x hx)
  omega
 ·have:=fG h.ln fun x hx=>by
   obtain⟨l,hl,rfl⟩:=aa2.1 hx
   exact key.2.2 l hl
  rwa[aa3] at this
end
end Lt
end
end Go.Proofs.YtdjmnpmdmjclhabGreat
