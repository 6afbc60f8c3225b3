import Derived.Test.YtbhdibflpjhpaaaGreatMg41
set_option maxHeartbeats 16000000
set_option maxRecDepth 100000
namespace Go.Proofs.YtbhdibflpjhpaaaGreat
section
open Go.Proofs.Tryz
open Go.RowKit Lt
section
variable {c:Wp} {p t:Nat} {W0 W:World} {O:Nat->Prop} {st:TS} {L U Z:Nat} {vp vw:Value}
abbrev eT (q:Pr):Obj:= .cells #[.int .i64 q.1.1,.int .i64 q.1.2,.int .i64 q.2.1,.int .i64 q.2.2] 129 (0,0)
theorem Kk {q:Pr} (h:q≠dN):(!(q.1.1== -1)|| !(q.1.2== -1)||(!(q.2.1== -1)|| !(q.2.2== -1)))=true:=by
 obtain⟨⟨a,b⟩,a',b'⟩:=q;cases hc:(!(a== -1)|| !(b== -1)||(!(a'== -1)|| !(b'== -1))) with
 |true=>rfl
 |false=>
  simp at hc;exact absurd (by rw[hc.1.1,hc.1.2,hc.2.1,hc.2.2]) h
theorem LA {w:World} {b:Nat} {t:TypeId} {x y z u:Value} (h:w.heap[b]? =some (.cells #[x,y,z,u] t (0,0))) (x' y':Value):((w.setCell ⟨b,0,none⟩ x').setCell ⟨b,1,none⟩ y').heap[b]? =some (.cells #[x',y',z,u] t (0,0)):=by
 have h1:=heap_setCell_same w b 0 _ _ x' h;have h2:=heap_setCell_same _ b 1 _ _ y' h1;simpa using h2
theorem LB {w:World} {b:Nat} {t:TypeId} {x y z u:Value} (h:w.heap[b]? =some (.cells #[x,y,z,u] t (0,0))) (x' y':Value):((w.setCell ⟨b,2,none⟩ x').setCell ⟨b,3,none⟩ y').heap[b]? =some (.cells #[x,y,x',y'] t (0,0)):=by
 have h1:=heap_setCell_same w b 2 _ _ x' h;have h2:=heap_setCell_same _ b 3 _ _ y' h1;simpa using h2
theorem MR (h:aS c p t W0 O st L U Z vp vw W) {hh:Int} {st':TS} (hlen:st.stk.length<=8388607) (ht:trim c.lw hh st=some st'):Calls prog 91 #[.pointer (some ⟨t,0,none⟩),.int .i64 hh] W fun e w'=>e= .returned (.tuple #[])/\aW c p t W0 O W st' w':=by
 have eqP:=WJ;have hin:=aJ.start h;obtain⟨R,hR⟩:∃R,jD c.lw hh st.stk st.turn=R:=⟨_,rfl⟩;have HR:=ζ hR;have HT:=ζ ht;have qY:=ζ hin;have HLEN:=ζ hlen;have nC:=ζ (aJ.reads hin (fun b hb=>hb.elim) (f:=74) (args:= #[.pointer (some ⟨t,0,none⟩)]) (R:=fun e=>e= .returned (gK (top st.stk))) (fun hT=>jq hT (by omega)));clear h hin hlen hR ht;go_enter func91,ntmps91;go_wp2_with (go_at_call 74;refine nC.out.mono ?_;rintro e w1 ⟨rfl,oz,-,-⟩;have pT:=ζ oz;clear oz);go_loopw [4] (fun bp wr=>∃bx ps tn,bp= .pointer (some ⟨bx,0,none⟩)/\aJ c p t W0 O W (fun b=>b=bx) { st with stk:=ps,turn:=tn } wr/\wr.heap[bx]? =some (eT (top ps))/\jD c.lw hh ps tn=R/\ps.length<=8388607) (fun _ wr=>fY t wr)
 case atStart=>exact⟨w1.heap.size,st.stk,st.turn,rfl,(pT.out.box _).less (fun b hb=> .inr hb),heap_alloc_new _ _,HR.out,HLEN.out⟩
 case round=>
  obtain⟨bx,ps,tn,rfl,jf,Le,hR2,hl2⟩:=hrel;have hbl:=lt_of_block Le;have hB:∀b,b=bx->b<wr.heap.size:=fun b hb=>by omega
  have Ao:Hid (∀D:LW wr,Calls prog 90 #[] D.val fun e w'=>e= .returned (gK dN)/\Below D.val.heap.size D.val w'):=fun D=>qB D.val
  have oM:=ζ Le;have gJ:=ζ jf;have Fx:=ζ hR2;have nj:=ζ hl2;have hne:=LW.any wr;have hcs:∀D:LW wr,D.val.heap[bx]? =some (eT (top ps)):=fun D=>(D.h.block _ hbl).trans Le
  cases ps with
  |nil=>
   have y0:∀D:LW wr,D.val.cell? ⟨bx,0,none⟩=some (.int .i64 (-1)):=fun D=>(ah (hcs D)).1
   have y1:∀D:LW wr,D.val.cell? ⟨bx,1,none⟩=some (.int .i64 (-1)):=fun D=>(ah (hcs D)).2.1
   have y2:∀D:LW wr,D.val.cell? ⟨bx,2,none⟩=some (.int .i64 (-1)):=fun D=>(ah (hcs D)).2.2.1
   have y3:∀D:LW wr,D.val.cell? ⟨bx,3,none⟩=some (.int .i64 (-1)):=fun D=>(ah (hcs D)).2.2.2.1
   have hst:st'={ st with stk:=[],turn:=tn }:=by
    have h1:=HT.out;unfold trim at h1;rw[HR.out,<-Fx.out] at h1;exact(aal h1).symm
   have HST:=ζ hst;clear jf Le hR2 hl2 hcs hbl hB hst;refine(show Code.wp _ _ _ _ _ from ?_);go_wp2_with fail;refine aG (by kernel_rfl) (by kernel_rfl) ?_
   repeat (go_big_quiet_step ((first|(go_at_call 90;exact Calls.lw (Ao.out _)))))
   refine wpQuiet_nil ?_;rintro _ ⟨D,rfl⟩;clear y0 y1 y2 y3;have tR:=gJ.out.later D.h;have aen:=ζ (aJ.reads (tR.less (B':=fun _=>False) (fun _ hb=>hb.elim)) (fun b hb=>hb.elim) (f:=74) (args:= #[.pointer (some ⟨t,0,none⟩)]) (R:=fun e=>e= .returned (gK dN)) (fun hT=>jq hT (by simp)));clear tR;go_wp2_with (go_at_call 74;refine aen.out.mono ?_;rintro e w3 ⟨rfl,je,-,-⟩;have sW:=ζ je;clear je);obtain⟨W4,tj⟩:∃W4,W4=w3.alloc (eT dN):=⟨_,rfl⟩;have hb4:W4.heap[w3.heap.size]? =some (eT dN):=by rw[tj];exact heap_alloc_new _ _
   have hl4:=lt_of_block hb4;have sU:Hid (aJ c p t W0 O W (fun _=>False) { st with stk:=[],turn:=tn } W4):=by rw[tj];exact(sW.out.box _).less (fun _ hb=>hb.elim)
   have XR:Hid (∀D:LW W4,Calls prog 90 #[] D.val fun e w'=>e= .returned (gK dN)/\Below D.val.heap.size D.val w'):=fun D=>qB D.val
   have y0:∀D:LW W4,D.val.cell? ⟨w3.heap.size,0,none⟩=some (.int .i64 (-1)):=fun D=>(ah ((D.h.block _ hl4).trans hb4)).1
   have y1:∀D:LW W4,D.val.cell? ⟨w3.heap.size,1,none⟩=some (.int .i64 (-1)):=fun D=>(ah ((D.h.block _ hl4).trans hb4)).2.1
   have y2:∀D:LW W4,D.val.cell? ⟨w3.heap.size,2,none⟩=some (.int .i64 (-1)):=fun D=>(ah ((D.h.block _ hl4).trans hb4)).2.2.1
   have y3:∀D:LW W4,D.val.cell? ⟨w3.heap.size,3,none⟩=some (.int .i64 (-1)):=fun D=>(ah ((D.h.block _ hl4).trans hb4)).2.2.2.1
   have Vi:=LW.any W4;have xJ:=ζ tj;clear tj hb4 hl4;change Code.wp _ _ _ _ (w3.alloc (eT dN));rw[<-xJ.out];refine aG (by kernel_rfl) (by kernel_rfl) ?_
   repeat (go_big_quiet_step ((first|(go_at_call 90;exact Calls.lw (XR.out _)))))
   refine wpQuiet_nil ?_;rintro _ ⟨D4,rfl⟩;clear y0 y1 y2 y3;go_wp2
   go_end0
   refine⟨rfl,?_⟩;rw[HST.out];exact(sU.out.later D4.h).post
  |cons q ps=>
   have Zr:R≠none:=fun e=>by
    have h1:=HT.out;unfold trim at h1;rw[HR.out,e] at h1;cases h1
   have hq:q≠dN:=fun e=>Zr (by rw[<-Fx.out,e];unfold jD;rw[if_pos rfl])
   obtain⟨a,ha,hRa⟩:∃a,least c.lw q=some a/\(if a=hh then (if q.1=aP then jD c.lw hh ps tn else match fE tn q.1.2 (-1) with|none=>none|some bz=>jD c.lw hh ps bz) else some (q::ps,tn))=R:=by
    have h1:=Fx.out;unfold jD at h1;rw[if_neg hq] at h1;cases hl:least c.lw q with
    |none=>rw[hl] at h1;exact absurd h1.symm Zr
    |some a=>rw[hl] at h1;exact⟨a,rfl,h1⟩
   have B4:Hid (∀D:LW wr,Calls prog 106 #[.pointer (some ⟨t,0,none⟩),gK q] D.val fun e w'=>e= .returned (.int .i64 a)/\Below D.val.heap.size D.val w'):=fun D=>by
    obtain⟨-,-,O',-,-,L',U',Z',sZ,vO,hT⟩:=gJ.out.later D.h;exact JP hT ha
   have HRA:=ζ hRa;have HQ:=ζ hq;have HRS:=ζ Zr;have hdec:=Kk hq;have HB:=ζ hB;obtain⟨⟨qa,qb⟩,qc,qd⟩:=q;dsimp only at hdec;have y0:∀D:LW wr,D.val.cell? ⟨bx,0,none⟩=some (.int .i64 qa):=fun D=>(ah (hcs D)).1
   have y1:∀D:LW wr,D.val.cell? ⟨bx,1,none⟩=some (.int .i64 qb):=fun D=>(ah (hcs D)).2.1
   have y2:∀D:LW wr,D.val.cell? ⟨bx,2,none⟩=some (.int .i64 qc):=fun D=>(ah (hcs D)).2.2.1
   have y3:∀D:LW wr,D.val.cell? ⟨bx,3,none⟩=some (.int .i64 qd):=fun D=>(ah (hcs D)).2.2.2.1
   clear jf Le hR2 hl2 hcs hbl hB Zr hRa hq ha;by_cases IV:a=hh
   .have hae:(a==hh)=true:=by simp[IV]
    go_wp2_with fail;refine aG (by kernel_rfl) (by kernel_rfl) ?_
    repeat (go_big_quiet_step ((first|(go_at_call 90;exact Calls.lw (Ao.out _))|(go_at_call 106;exact Calls.lw (B4.out _)))))
    refine wpQuiet_nil ?_;rintro _ ⟨D,rfl⟩;clear y0 y1 y2 y3;have tR:=gJ.out.later D.h;have Zi:D.val.heap[bx]? =some (eT ((qa,qb),qc,qd)):=(D.h.block _ (lt_of_block oM.out)).trans oM.out;have hBD:∀b,b=bx->b<D.val.heap.size:=fun b hb=>by have:=lt_of_block Zi;omega
    have mX:=ζ (aJ.calls tR hBD (f:=107) (args:= #[.pointer (some ⟨t,0,none⟩)]) (R:=fun e=>e= .returned (.tuple #[])) (st':={ st with stk:=ps,turn:=tn }) (fun hT=>uK hT rfl (by have:=nj.out;simp at this ⊢;omega)));have HBD:=ζ Zi;obtain⟨z0,z1,z2,z3,zf⟩:=ah Zi;clear tR Zi hBD;by_cases hl:(qa,qb)=aP
    .have hle:decide ((qa,qb)=aP)=true:=decide_eq_true hl
     have jA:Hid (∀w,Calls prog 108 #[.agg #[.int .i64 qa,.int .i64 qb]] w fun e w'=>e= .returned (.bool true)/\Below w.heap.size w w'):=fun w=>by rw[<-hle];exact eZ (qa,qb) w
     have BZ:Hid (jD c.lw hh ps tn=R):=by
      have h1:=HRA.out;rw[if_pos IV] at h1;rw[if_pos hl] at h1;exact h1
     have HHL:=ζ hl;clear hle hl hdec
     go_wp2_with (first
      |(go_at_call 107;refine mX.out.mono ?_;rintro e w3 ⟨rfl,je,hk3⟩;have hb3:=(hk3 bx rfl).trans HBD.out;have sW:=ζ je;have cz:=ζ hb3;obtain⟨z0,z1,z2,z3,zf⟩:=ah hb3;clear je hk3 hb3)
      |(go_at_call 108;refine(jA.out _).mono ?_;rintro e w4 ⟨rfl,hb4⟩;have sU:=ζ (sW.out.later hb4);have hb5:=(hb4.block _ (lt_of_block cz.out)).trans cz.out;have iE:=ζ hb5;obtain⟨z0,z1,z2,z3,zf⟩:=ah hb5;clear hb4 hb5))
     have mO:=(sU.out.less (B':=fun _=>False) (fun _ hb=>hb.elim)).box (eT ((qa,qb),qc,qd));have hb5:(w4.alloc (eT ((qa,qb),qc,qd))).heap[w4.heap.size]? =some (eT ((qa,qb),qc,qd)):=heap_alloc_new _ _;have EP:=ζ (aJ.reads mO (fun b hb=>hb.elim (fun q=>q.elim) fun q=>by have:=lt_of_block hb5;omega) (f:=74) (args:= #[.pointer (some ⟨t,0,none⟩)]) (R:=fun e=>e= .returned (gK (top ps))) (fun hT=>jq hT (by have:=nj.out;simp at this ⊢;omega)));have jN:=ζ hb5;clear mO hb5;go_at_call 74;refine EP.out.mono ?_;rintro e w6 ⟨rfl,tS,pY,-⟩;have eC:=(pY w4.heap.size (.inr rfl)).trans jN.out;obtain⟨x0,x1,x2,x3,xf⟩:=ah eC;have zh:=ζ tS;have oN:=ζ eC;clear tS pY eC;obtain⟨q',hq'⟩:∃q',top ps=q':=⟨_,rfl⟩;have HQ':=ζ hq';rw[hq'];clear hq';go_wp2;go_roundw
     case rel=>
      refine⟨w4.heap.size,ps,tn,rfl,?_,?_,BZ.out,by have:=nj.out;simp at this;omega⟩
      .exact((((zh.out.less (B':=fun b=>b=w4.heap.size) (fun _ hb=> .inr hb)).set rfl _).set rfl _).set rfl _).set rfl _
      .rw[HQ'.out]
       exact jy oN.out _ _ _ _
     case measure=>
      have h1:=(((((zh.out.less (B':=fun b=>b=w4.heap.size) (fun _ hb=> .inr hb)).set (i:=0) rfl (.int .i64 q'.1.1)).set (i:=1) rfl (.int .i64 q'.1.2)).set (i:=2) rfl (.int .i64 q'.2.1)).set (i:=3) rfl (.int .i64 q'.2.2)).fY;have h2:=gJ.out.fY;rw[h2];dsimp only at h1 ⊢;rw[h1];simp
    .have hle:decide ((qa,qb)=aP)=false:=decide_eq_false hl
     have jA:Hid (∀w,Calls prog 108 #[.agg #[.int .i64 qa,.int .i64 qb]] w fun e w'=>e= .returned (.bool false)/\Below w.heap.size w w'):=fun w=>by rw[<-hle];exact eZ (qa,qb) w
     obtain⟨k,hkb,Y7,BZ⟩:∃k:Nat,qb=(k:Int)/\k<tn.length/\Hid (jD c.lw hh ps (tn.set k (-1))=R):=by
      have h1:=HRA.out;rw[if_pos IV] at h1;rw[if_neg hl] at h1;cases hp:fE tn ((qa,qb),qc,qd).1.2 (-1) with
      |none=>rw[hp] at h1;exact absurd h1.symm HRS.out
      |some tn'=>
       rw[hp] at h1;obtain⟨k,e1,e2,e3⟩:=lR hp;refine⟨k,e1,e2,?_⟩;rw[<-e3];exact h1
     subst hkb;clear hle hl hdec
     go_wp2_with (first
      |(go_at_call 107;refine mX.out.mono ?_;rintro e w3 ⟨rfl,je,hk3⟩;have hb3:=(hk3 bx rfl).trans HBD.out;have sW:=ζ je;have cz:=ζ hb3;obtain⟨z0,z1,z2,z3,zf⟩:=ah hb3;clear je hk3 hb3)
      |(go_at_call 108;refine(jA.out _).mono ?_;rintro e Cx ⟨rfl,hb4⟩;have sU:=ζ (sW.out.later hb4);have hb5:=(hb4.block _ (lt_of_block cz.out)).trans cz.out;have iE:=ζ hb5;obtain⟨z0,z1,z2,z3,zf⟩:=ah hb5;clear hb4 hb5))
     obtain⟨U',u0,u1,u2,u3,u4,u5,u6⟩:=sU.out.Yp (k:=k) Y7;have aeX:=ζ (u6 (-1)).drew;have n1:U'≠bx:=u3 bx rfl;have v0:(0:Int)<=(k:Int):=by omega
     have v1:(k:Int)<(c.es.length:Int):=by omega
     have rV:(Cx.setCell ⟨U',k,none⟩ (.int .i64 (-1))).drew.heap[bx]? =some (eT ((qa,(k:Int)),qc,qd)):=(heap_setCell_other Cx ⟨U',k,none⟩ _ _ (fun e=>n1 e.symm)).trans iE.out;have HBB:=ζ rV;clear u3 u6 rV;go_big_region;go_wp2_with fail;have mO:aJ c p t W0 O W (fun b=>b=Cx.heap.size) { st with stk:=ps,turn:=tn.set k (-1) } ((Cx.setCell ⟨U',k,none⟩ (.int .i64 (-1))).alloc (eT ((qa,(k:Int)),qc,qd))).drew:=((aeX.out.less (B':=fun _=>False) (fun _ hb=>hb.elim)).box (eT ((qa,(k:Int)),qc,qd))).less (fun b hb=> .inr (by rw[hb];simp[World.drew]));have hb5:((Cx.setCell ⟨U',k,none⟩ (.int .i64 (-1))).alloc (eT ((qa,(k:Int)),qc,qd))).drew.heap[Cx.heap.size]? =some (eT ((qa,(k:Int)),qc,qd)):=by
      have h1:=heap_alloc_new (Cx.setCell ⟨U',k,none⟩ (.int .i64 (-1))) (eT ((qa,(k:Int)),qc,qd));have h2:(Cx.setCell ⟨U',k,none⟩ (.int .i64 (-1))).heap.size=Cx.heap.size:=by simp
      rw[h2] at h1;exact h1
     have EP:=ζ (aJ.reads mO (fun b hb=>by have:=lt_of_block hb5;omega) (f:=74) (args:= #[.pointer (some ⟨t,0,none⟩)]) (R:=fun e=>e= .returned (gK (top ps))) (fun hT=>jq hT (by have:=nj.out;simp at this ⊢;omega)));have jN:=ζ hb5;clear mO hb5;go_at_call 74;refine EP.out.mono ?_;rintro e w6 ⟨rfl,tS,pY,-⟩;have eC:=(pY Cx.heap.size rfl).trans jN.out;obtain⟨x0,x1,x2,x3,xf⟩:=ah eC;have zh:=ζ tS;have oN:=ζ eC;clear tS pY eC;obtain⟨q',hq'⟩:∃q',top ps=q':=⟨_,rfl⟩;have HQ':=ζ hq';rw[hq'];clear hq';go_wp2;go_roundw
     case rel=>
      refine⟨Cx.heap.size,ps,tn.set k (-1),rfl,?_,?_,BZ.out,by have:=nj.out;simp at this;omega⟩
      .exact(((zh.out.set rfl _).set rfl _).set rfl _).set rfl _
      .rw[HQ'.out]
       exact jy oN.out _ _ _ _
     case measure=>
      have h1:=((((zh.out.set (i:=0) rfl (.int .i64 q'.1.1)).set (i:=1) rfl (.int .i64 q'.1.2)).set (i:=2) rfl (.int .i64 q'.2.1)).set (i:=3) rfl (.int .i64 q'.2.2)).fY;have h2:=gJ.out.fY;rw[h2];dsimp only at h1 ⊢;rw[h1];simp
   .have hae:(a==hh)=false:=by simp[IV]
    have hR3:R=some (((qa,qb),qc,qd)::ps,tn):=by
     have h1:=HRA.out;rw[if_neg IV] at h1;exact h1.symm
    obtain⟨nG,M0,i1,lX,MZ,i2,hc1,hc2,hst⟩:∃nG M0 i1 lX MZ i2,cut c.lw hh st.like tn (qa,qb) (qc,qd)=some (nG,M0,i1)/\cut c.lw hh nG M0 (qc,qd) i1=some (lX,MZ,i2)/\st'={ st with stk:=(i1,i2)::ps,like:=lX,turn:=MZ }:=by
     have h1:=HT.out;unfold trim at h1;rw[HR.out,hR3] at h1;dsimp only at h1;rw[if_neg HQ.out] at h1;cases e1:cut c.lw hh st.like tn (qa,qb) (qc,qd) with
     |none=>rw[e1] at h1;cases h1
     |some r1=>
      obtain⟨nG,M0,i1⟩:=r1;rw[e1] at h1;dsimp only at h1;cases e2:cut c.lw hh nG M0 (qc,qd) i1 with
      |none=>rw[e2] at h1;cases h1
      |some r2=>
       obtain⟨lX,MZ,i2⟩:=r2;rw[e2] at h1;exact⟨nG,M0,i1,lX,MZ,i2,rfl,e2,(aal h1).symm⟩
    have X7:=ζ hc1;have FB:=ζ hc2;have HST:=ζ hst;clear hR3 hc1 hc2 hst;go_wp2_with fail;refine aG (by kernel_rfl) (by kernel_rfl) ?_
    repeat (go_big_quiet_step ((first|(go_at_call 90;exact Calls.lw (Ao.out _))|(go_at_call 106;exact Calls.lw (B4.out _)))))
    refine wpQuiet_nil ?_;rintro _ ⟨D,rfl⟩;clear y0 y1 y2 y3;have tR:=(gJ.out.later D.h).less (B':=fun _=>False) (fun _ hb=>hb.elim);have EP:=ζ (aJ.reads tR (fun b hb=>hb.elim) (f:=74) (args:= #[.pointer (some ⟨t,0,none⟩)]) (R:=fun e=>e= .returned (gK ((qa,qb),qc,qd))) (fun hT=>jq hT (by have:=nj.out;simp at this ⊢;omega)));clear tR;go_wp2_with (go_at_call 74;refine EP.out.mono ?_;rintro e w3 ⟨rfl,je,-,-⟩;have sW:=ζ je;clear je);obtain⟨W4,tj⟩:∃W4,W4=w3.alloc (eT ((qa,qb),qc,qd)):=⟨_,rfl⟩;obtain⟨bb,rV⟩:∃bb,w3.heap.size=bb:=⟨_,rfl⟩;have hb4:W4.heap[bb]? =some (eT ((qa,qb),qc,qd)):=by rw[tj,<-rV];exact heap_alloc_new _ _
    have hl4:=lt_of_block hb4;have sU:Hid (aJ c p t W0 O W (fun b=>b=bb) { st with stk:=((qa,qb),qc,qd)::ps,turn:=tn } W4):=by rw[tj];exact(sW.out.box _).less (fun b hb=> .inr (by omega))
    have XR:Hid (∀D:LW W4,Calls prog 90 #[] D.val fun e w'=>e= .returned (gK dN)/\Below D.val.heap.size D.val w'):=fun D=>qB D.val
    have y0:∀D:LW W4,D.val.cell? ⟨bb,0,none⟩=some (.int .i64 qa):=fun D=>(ah ((D.h.block _ hl4).trans hb4)).1
    have y1:∀D:LW W4,D.val.cell? ⟨bb,1,none⟩=some (.int .i64 qb):=fun D=>(ah ((D.h.block _ hl4).trans hb4)).2.1
    have y2:∀D:LW W4,D.val.cell? ⟨bb,2,none⟩=some (.int .i64 qc):=fun D=>(ah ((D.h.block _ hl4).trans hb4)).2.2.1
    have y3:∀D:LW W4,D.val.cell? ⟨bb,3,none⟩=some (.int .i64 qd):=fun D=>(ah ((D.h.block _ hl4).trans hb4)).2.2.2.1
    have Vi:=LW.any W4;have xJ:=ζ tj;have iE:=ζ hb4;change Code.wp _ _ _ _ (w3.alloc (eT ((qa,qb),qc,qd)));rw[<-xJ.out,rV];clear tj hb4 hl4 rV;refine aG (by kernel_rfl) (by kernel_rfl) ?_
    repeat (go_big_quiet_step ((first|(go_at_call 90;exact Calls.lw (XR.out _)))))
    refine wpQuiet_nil ?_;rintro _ ⟨D4,rfl⟩;clear y0 y1 y2 y3;have K2:=sU.out.later D4.h;have hb4:D4.val.heap[bb]? =some (eT ((qa,qb),qc,qd)):=(D4.h.block _ (lt_of_block iE.out)).trans iE.out;have mX:=ζ (aJ.calls K2 (fun b hb=>by have:=lt_of_block hb4;omega) (f:=107) (args:= #[.pointer (some ⟨t,0,none⟩)]) (R:=fun e=>e= .returned (.tuple #[])) (st':={ st with stk:=ps,turn:=tn }) (fun hT=>uK hT rfl (by have:=nj.out;simp at this ⊢;omega)));have ajF:=ζ hb4;clear K2 hb4;go_wp2_with (go_at_call 107;refine mX.out.mono ?_;rintro e w5 ⟨rfl,mO,hk5⟩;have hb5:=(hk5 bb rfl).trans ajF.out;have Mq:=ζ mO;have jN:=ζ hb5;obtain⟨z0,z1,z2,z3,zf⟩:=ah hb5;clear mO hk5 hb5);have afe:=ζ (aJ.calls Mq.out (fun b hb=>by have:=lt_of_block jN.out;omega) (f:=109) (args:= #[.pointer (some ⟨t,0,none⟩),fj (qa,qb),fj (qc,qd),.int .i64 hh]) (R:=fun e=>e= .returned (fj i1)) (st':={ st with stk:=ps,like:=nG,turn:=M0 }) (fun hT=>FM hT X7.out));obtain⟨NV,NU⟩:=i1;obtain⟨NT,NS⟩:=i2;go_at_call 109;refine afe.out.mono ?_;rintro e w6 ⟨rfl,tS,pY⟩;have eC:=(pY bb rfl).trans jN.out;have zh:=ζ tS;have oN:=ζ eC;obtain⟨z0,z1,z2,z3,zf⟩:=ah eC;clear tS pY eC;go_wp2_with fail;have K0:=(zh.out.set (b:=bb) (i:=0) rfl (.int .i64 NV)).set (b:=bb) (i:=1) rfl (.int .i64 NU);have mQ:=LA oN.out (.int .i64 NV) (.int .i64 NU);generalize (w6.setCell ⟨bb,0,none⟩ (.int .i64 NV)).setCell ⟨bb,1,none⟩ (.int .i64 NU)=w7 at*;have afd:=ζ (aJ.calls K0 (fun b hb=>by have:=lt_of_block mQ;omega) (f:=109) (args:= #[.pointer (some ⟨t,0,none⟩),fj (qc,qd),fj (NV,NU),.int .i64 hh]) (R:=fun e=>e= .returned (fj (NT,NS))) (st':={ st with stk:=ps,like:=lX,turn:=MZ }) (fun hT=>FM hT FB.out));have Ya:=ζ mQ;clear K0 mQ z0 z1 z2 z3 zf;go_at_call 109;refine afd.out.mono ?_;rintro e w8 ⟨rfl,aa4,hk8⟩;have qL:=(hk8 bb rfl).trans Ya.out;have ajd:=ζ aa4;have HB8:=ζ qL;obtain⟨z0,z1,z2,z3,zf⟩:=ah qL;clear aa4 hk8 qL;go_wp2_with fail;have aa3:=(ajd.out.set (b:=bb) (i:=2) rfl (.int .i64 NT)).set (b:=bb) (i:=3) rfl (.int .i64 NS);have rW:=LB HB8.out (.int .i64 NT) (.int .i64 NS);generalize (w8.setCell ⟨bb,2,none⟩ (.int .i64 NT)).setCell ⟨bb,3,none⟩ (.int .i64 NS)=w9 at*;have aez:=ζ (aJ.calls aa3 (fun b hb=>by have:=lt_of_block rW;omega) (f:=94) (args:= #[.pointer (some ⟨t,0,none⟩),gK ((NV,NU),NT,NS)]) (R:=fun e=>e= .returned (.tuple #[])) (st':={ st with stk:=((NV,NU),NT,NS)::ps,like:=lX,turn:=MZ }) (fun hT=>wL hT ((NV,NU),NT,NS) (by have:=nj.out;simp at this ⊢;omega)));clear aa3 rW z0 z1 z2 z3 zf;go_at_call 94;refine aez.out.mono ?_;rintro e wa ⟨rfl,agZ,-⟩;go_wp2
    go_end0
    refine⟨rfl,?_⟩;rw[HST.out];exact agZ.post
end
end
end Go.Proofs.YtbhdibflpjhpaaaGreat
