import Derived.Test.YtnhcggfbkoppnaaGreatMg19
import Derived.Deep.RegionHeld3
import Derived.Test.YtnhcggfbkoppnaaGreatMg18
import Derived.Test.YtnhcggfbkoppnaaGreatMg01
namespace Go.Proofs.YtnhcggfbkoppnaaGreat
section
open Go.RowKit Go.Shelf
attribute [local go_sem] Oper.semAt_some
namespace Lo
def wb (s:Df.St) (h:Int):Bool:=decide (Df.at_ s.aJ (h.toNat/2)=h)
def Fe (n:Nat) (es:List (Int×Int)) (s:Df.St) (v:Nat):List Int:=(Cs.gM n es v).filter (wb s)
end Lo
set_option maxRecDepth 100000 in
set_option maxHeartbeats 4000000 in
theorem Ij {p:Nat} {av:Value} {n:Nat} {es:List (Int×Int)} {f:For} {s:Df.St} (v Bw Bv:Nat) (S:Nat→Prop) (w0 w:World) (hd:Wd w0 p av n es f s) (hb:Below w0.heap.size w0 w) (hv:v<n)
 (bw:Boxed w Bw 149 (.pointer (some ⟨p,0,none⟩))) (bv:Boxed w Bv 3 (.int .i64 (v:Int))) (hSw:¬S Bw) (hS:∀b,S b→b<w.heap.size∨w.heap.size+4≤b):
 tY Tryz.prog 137 #[.pointer (some ⟨Bw,0,none⟩),.pointer (some ⟨Bv,0,none⟩)] XG w0.heap.size S (Lo.Fe n es s v) w 2:=by
 intro l J Jx W hW hW2 hJ hJx hY h0
 have sr:∀X,Below w0.heap.size w0 X→Wd X p av n es f s:=fun X hX=>hd.later hX
 have hzl:(Cs.gM n es v).length≤8388608:=by
  rw[Cs.Dr]
  have:=Cs.EE (n:=n) (es:=es) (v:=(v:Int))
  have:=hd.val.few
  omega
 have dU:Below w0.heap.size w0 W:=hb.trans (hW.mono hb.size)
 have Xo:Boxed W Bw 149 (.pointer (some ⟨p,0,none⟩)):=(hW.block Bw bw.lt).trans bw
 have Xp:Boxed W Bv 3 (.int .i64 (v:Int)):=(hW.block Bv bv.lt).trans bv
 have UO:∀b,S b→b<W.heap.size∨W.heap.size+2≤b:=fun b hs=>by
  have h1:=hS b hs
  have h2:=hW.size
  omega
 have acJ:w0.heap.size≤W.heap.size:=dU.size
 obtain⟨Y,Rk⟩:∃Y,Y=W.alloc (.cells #[.func (.yield l) #[] #[]] 87):=⟨_,rfl⟩
 have UI:Below W.heap.size W Y:=by rw[Rk];exact(Below.refl _ _).alloc (Nat.le_refl _) _
 have byY:Boxed Y W.heap.size 87 (.func (.yield l) #[] #[]):=by rw[Rk];exact Boxed.new _ _ _
 have akb:Y.heap.size=W.heap.size+1:=by rw[Rk];simp
 have U9:Boxed Y Bw 149 (.pointer (some ⟨p,0,none⟩)):=(UI.block Bw Xo.lt).trans Xo
 have bvY:Boxed Y Bv 3 (.int .i64 (v:Int)):=(UI.block Bv Xp.lt).trans Xp
 have tI:Below w0.heap.size w0 Y:=dU.trans (UI.mono acJ)
 have VG:Hid (∀X,Below Y.heap.size Y X→Calls Tryz.prog 138 #[av,.int .i64 (v:Int)] X (IK n es (v:Int) w0 X)):=fun X hX=>Iw av n es (v:Int) w0 X hd.CV (tI.trans (hX.mono tI.size))
 have HS:Hid (∀X,Below Y.heap.size Y X→(X.cell? ⟨Bw,0,none⟩=some (.pointer (some ⟨p,0,none⟩))∧X.cell? ⟨Bv,0,none⟩=some (.int .i64 (v:Int))∧X.cell? ⟨p,0,none⟩=some av∧Below Y.heap.size Y X)):=fun X hX=>
  ⟨Boxed.cell ((hX.block Bw U9.lt).trans U9),Boxed.cell ((hX.block Bv bvY.lt).trans bvY),(sr X (tI.trans (hX.mono tI.size))).c0,hX⟩
 have hbd:Below Y.heap.size Y Y.drew:=(Below.refl _ _).drew
 have HYE:=Nu.hid Rk
 have ZO:=hd.CV
 have hval:=hd.val
 have gO:=hd.vf
 refine(callsIn_wide (n:=9)).1 ?_
 refine callsIn_of_wp_marks Tryz.func137 rfl trivial ?_ rfl
 simp only[Tryz.ntmps137,List.size_toArray,List.length_cons,List.length_nil,Nat.reduceAdd,Nat.reduceSub,Array.replicate_succ,Array.replicate_zero,List.push_toArray,List.append_toArray,List.nil_append,List.cons_append]
 refine wpIn_wide.2 ?_
 clear Rk
 go_wp2_with fail
 rw[←HYE.out]
 go_region_held3 (fun X=>X.cell? ⟨Bw,0,none⟩=some (.pointer (some ⟨p,0,none⟩))∧X.cell? ⟨Bv,0,none⟩=some (.int .i64 (v:Int))∧X.cell? ⟨p,0,none⟩=some av∧Below Y.heap.size Y X)
  (exact HS.out _ (by first|assumption|exact hbd))
  ((go_at_call 138;refine(VG.out _ (by first|assumption|exact hbd)).mono ?_;rintro e w1 ⟨Bs,ao,cap,rfl,tJ,Mq,hints,hb1⟩;have HBS:Hid (Bs=Y.heap.size):=tJ;clear tJ;have hb2:Below Y.heap.size Y w1:=Below.trans (by first|assumption|exact hbd) (hb1.mono (Below.size (by first|assumption|exact hbd)))))
 all_goals
  clear VG HS hbd HYE ZO hW bw bv hS hb
  go_wp2
  refine(wpIn_wide (n:=9)).1 ?_
  have tJ:=HBS.out
  have aj9:Y.heap.size≤w1.heap.size:=hb2.size
  have A8:Below w0.heap.size w0 w1:=tI.trans (hb2.mono tI.size)
  have hW1:Below W.heap.size W w1:=UI.trans (hb2.mono (by omega))
  have by1:Boxed w1 W.heap.size 87 (.func (.yield l) #[] #[]):=(hb2.block _ byY.lt).trans byY
  have Va:Boxed w1 Bw 149 (.pointer (some ⟨p,0,none⟩)):=(hb2.block _ U9.lt).trans U9
  have ZX:¬S Bs:=fun hs=>by
   have h1:=UO Bs hs
   have h2:=tJ
   omega
  have ZW:¬S W.heap.size:=fun hs=>by
   have:=UO _ hs
   omega
  have PV:kg w0.heap.size w1 ao (Cs.gM n es v):=hints.under A8
  have hJ1:OwnFrom w1.heap.size J:=xG hJ (by omega)
  have RD:OwnFrom w1.heap.size Jx:=xG hJx (by omega)
  clear tJ
  refine rV (n:=9) (gf:=157) (lb:= #[.pointer (some ⟨Bs,0,none⟩)]) (by rfl) (enters_of Tryz.func157 (by kernel_rfl) rfl)
   (T6 Bs w0.heap.size cap S ao (Cs.gM n es v) hzl w1 (by omega) ZX Mq PV) (by omega) (fun _=>rfl)
   (fun pre A=>J (pre.filter (Lo.wb s)) A∧bE w0.heap.size S w1 A) (fun c pre A=>c= .ret∧Jx (pre.filter (Lo.wb s)) A)
   (OwnFrom.and (fun pre X Z row hs hg hr=>hJ1 (pre.filter (Lo.wb s)) X Z row hs hg hr) (bE.own (by omega) (by omega)))
   (fun c pre X Z row hs hg hr=>⟨hs.1,RD (pre.filter (Lo.wb s)) X Z row hs.2 hg hr⟩)
   ⟨JJ hJ h0 hW1,bE.refl _ _ _⟩
   (fun x a' _=>a'={ tmps:= #[.func (.yield l) #[] #[],.pointer (some ⟨Bw,0,none⟩),.pointer (some ⟨Bv,0,none⟩),.pointer (some ⟨W.heap.size,0,none⟩),.int .i64 x,.pointer (some ⟨p,0,none⟩),.pointer (some ⟨p,0,none⟩),.pointer (some ⟨p,0,none⟩),av,.int .i64 (v:Int),
     .func (.func 157) #[] #[.pointer (some ⟨Bs,0,none⟩)],.int .i64 x,undef,undef,undef,undef,undef,undef,undef,undef,undef,undef,undef,undef,undef,undef,undef,undef,undef],defers:=[] })
   (fun x a'=>ownFrom_pure _ _) ?assign ?body ?done ?stop
  case assign=>
   intro l2 pre x A K _ hi hK
   gi_wp2
   exact hK _ _ (KeepsFrom.refl _ _) (bE.refl _ _ _) hi rfl
  case body=>
   rintro l2 pre x a' A ⟨hl2,-⟩ _ hpx ⟨UU,hkp⟩ rfl
   obtain⟨i,rfl,hi,hfr⟩:=(wD hv).1 (hpx.subset (List.mem_append_right pre (List.mem_singleton.2 rfl)))
   have hA:=sr A (A8.trans hkp.1)
   obtain⟨b4,o4,e4,d4⟩:=hA.aJ (v:=i/2) (by omega)
   have c4:=hA.c4
   rw[e4] at c4
   have d4i:=d4 A (Below.refl _ _) (i/2) (by omega)
   have cw:=hkp.cell Va.cell hSw
   have cy:=hkp.cell by1.cell ZW
   have hsz:w1.heap.size≤A.heap.size:=hkp.1.size
   have i0:(0:Int)≤(i:Int):=by omega
   obtain⟨jh,mH⟩:∃jh,i/2=jh:=⟨_,rfl⟩
   have wH:(i:Int).tdiv 2=(jh:Int):=by rw[Int.tdiv_eq_ediv_of_nonneg i0];omega
   have AD:(i:Int)/2=(jh:Int):=by omega
   have j0:(0:Int)≤(jh:Int):=by omega
   have j1:(jh:Int)<(es.length:Int):=by omega
   have cq:=hval.few
   have GX:Lo.wb s (i:Int)=decide (Df.at_ s.aJ (i/2)=(i:Int)):=rfl
   obtain⟨z,hz⟩:∃z,Df.at_ s.aJ (i/2)=z:=⟨_,rfl⟩
   rw[hz] at d4i GX
   rw[mH] at d4i
   have HWB:=Nu.hid GX
   have nV:=Nu.hid hkp
   by_cases hzi:z=(i:Int)
   ·subst hzi
    have hw1:Lo.wb s (i:Int)=true:=GX.trans (decide_eq_true rfl)
    have hpf:(pre.filter (Lo.wb s))++[(i:Int)] <+: Lo.Fe n es s v:=by
     have:=x7 (Lo.wb s) hpx
     rw[pT,if_pos hw1] at this
     exact this
    have HF:Hid ((pre++[(i:Int)]).filter (Lo.wb s)=pre.filter (Lo.wb s)++[(i:Int)]):=by
     show _=_
     rw[pT,if_pos hw1]
    obtain⟨fn,tmps,assign,body,hy,hR⟩:=hY (pre.filter (Lo.wb s)) (i:Int) A hpf UU (by have:=Mq.lt;have h2:=HBS.out;omega) 6
    have vH:Hid (W.heap.size≤w1.heap.size):=by show _≤_;omega
    clear GX hkp hY hpx UU hpf hw1 hz d4 hA sr hJ1 RD PV ZX ZW UO hfr
    gi_wp2
    refine hR.mono ?_
    rintro e W3 ⟨mG,(⟨rfl,hJ3,hk3⟩|⟨rfl,hJx3⟩)⟩
    ·have HKF:=Nu.hid mG
     have BZ:=Nu.hid hJ3
     have uj:=Nu.hid hk3
     clear mG hJ3 hk3
     gi_wp2
     exact⟨uO HKF.out vH.out,uj.out,by rw[HF.out];exact BZ.out,nV.out.trans uj.out⟩
    ·have HKF:=Nu.hid mG
     have BZ:=Nu.hid hJx3
     clear mG hJx3
     gi_wp2
     exact⟨uO HKF.out vH.out,rfl,by rw[HF.out];exact BZ.out⟩
   ·have hw0:Lo.wb s (i:Int)=false:=GX.trans (decide_eq_false hzi)
    have HF:Hid ((pre++[(i:Int)]).filter (Lo.wb s)=pre.filter (Lo.wb s)):=by
     show _=_
     rw[pT,if_neg (by rw[hw0];decide)]
    have HJ:=Nu.hid UU
    clear GX hkp hY hpx UU hw0 hz d4 hA sr hJ1 RD PV ZX ZW UO hfr
    gi_wp2
    refine⟨fun _ h=>(by cases h),?_⟩
    gi_wp2
    exact⟨KeepsFrom.refl _ _,bE.refl _ _ _,by rw[HF.out];exact HJ.out,nV.out⟩
  case done=>
   rintro D A hD ⟨Z6,NK⟩ hK
   gi_wp2
   refine⟨by simp,.inl ⟨_,_,rfl,run_takeDeferred hK,?_⟩⟩
   exact⟨_,results_none rfl _ _ _,⟨_,rfl⟩,.inl (hJ.putObj _ Z6 (by omega) hK rfl)⟩
  case stop=>
   rintro D c pre A hD hpre ⟨rfl,Z6⟩ hK
   gi_wp2
   refine⟨by simp,.inl ⟨_,_,rfl,run_takeDeferred hK,?_⟩⟩
   exact⟨_,results_none rfl _ _ _,⟨_,rfl⟩,.inr ⟨_,x7 _ hpre,hJx.putObj _ Z6 (by omega) hK rfl⟩⟩
end
section
open Go.RowKit
namespace aj
theorem cF.wpIn {P:Program} {l n:Nat} {o:Oper} {a:Act} {w:World} {R:Value→World→Prop} {K:Act→World→Prop} {Q:Exit→Act→World→Prop} (hnd:∀c,o.op≠.defer c) (h:cF P o a.eval w R) (hK:∀v w',R v w'→K (a.put o.dst v) w'):o.wpIn (Fence.wide.inRound l) n P a w K Q:=by
 unfold cF at h
 unfold Oper.wpIn
 refine⟨fun _ _=>trivial,?_⟩
 rw[Oper.semAt_plain _ _ _ hnd]
 generalize (execOp a.eval o).run P w=r at h ⊢
 cases r with
 |ok x w'=>
  cases x<;>simp only[Oper.uponIn] at h ⊢
  case value v=>exact hK v w' h
  case skip=>exact hK _ w' h
  case enter f args=>
   refine⟨(fun hd=>by cases hd),CallsIn.inRound l (callsIn_wide.2 (Calls.mono h fun e w'' he=> ?_))⟩
   obtain⟨v,rfl,hv⟩:=he
   exact hK v w'' hv
 |halt x w'=>cases h
theorem BI {P:Program} {l n:Nat} {ops:Array Oper} {Q:Exit→Act→World→Prop} {a0:Act} {w0:World} (val:Nat→Value) (C:(Nat→Bool)→World→Prop) (N:Nat) (hN:a0.tmps.size=N) (hsh:shape ops ops.size (fun _=>[])=true) (A7:ops.all qD=true)
 (tL:C (fun _=>false) w0)
 (hstep:∀i o (L:Nat→Bool) w (ev:Operand→Value),ops[i]? =some o→L i=false→C L w→(∀e∈o.after,Region.binds .any e=true→L e.on=true)→(∀j o',ops[j]? =some o'→L j=true→∀e∈o'.after,Region.binds .any e=true→L e.on=true)→
   (∀j t,j<i→dst ops j=some t→t<N→ev (.tmp t)=val j)→(∀t,((List.range i).all fun j=>dst ops j != some t)=true→ev (.tmp t)=a0.eval (.tmp t))→(∀v,ev (.const v)=v)→(∀f,ev (.func f)= .func (.func f) #[] #[])→
   cF P o ev w fun v w'=>v=val i∧C (bQ L i) w')
 (hend:∀L w,(∀i,i<ops.size→L i=true)→C L w→Q .normal (canon ops a0 val ops.size) w):
 wpAnyIn (Fence.wide.inRound l) n P .any ops Q ops.size (Array.replicate ops.size false) a0 w0:=by
 have hs:=fun i (hi:i<ops.size)=>List.all_eq_true.1 hsh i (List.mem_range.2 hi)
 have hlt:∀{j t},dst ops j=some t→j<ops.size:=fun {j t} h=>by
  rcases Nat.lt_or_ge j ops.size with h1|h1
  ·exact h1
  ·unfold dst at h;rw[Array.getElem?_eq_none h1] at h;cases h
 have hone:∀i j t,i≠j→dst ops j=some t→dst ops i≠some t:=fun i j t hij hj hi=>by
  have h1:=hs j (hlt hj)
  dsimp only at h1
  cases ho:ops[j]? with
  |none=>rw[ho] at h1;cases h1
  |some o=>
   have hd:o.dst=some t:=by unfold dst at hj;rw[ho] at hj;exact hj
   rw[ho] at h1
   simp only[Bool.and_eq_true] at h1
   have h2:=h1.1
   rw[hd] at h2
   have h3:=List.all_eq_true.1 h2 i (List.mem_range.2 (hlt hi))
   simp only[Bool.or_eq_true,beq_iff_eq,bne_iff_ne] at h3
   rcases h3 with h3|h3
   ·exact hij h3
   ·exact h3 hi
 have hop:∀i,i<ops.size→∃o,ops[i]? =some o∧o.guard=none∧(∀cs b,o.op≠.select cs b)∧
  (∀t,Operand.tmp t∈o.op.operands→∀j,j<ops.size→dst ops j=some t→j<i∧∃e∈o.after,Region.binds .any e=true∧e.on=j)∧(∀e∈o.after,Region.binds .any e=true→e.on<i):=fun i hi=>by
  have h1:=hs i hi
  dsimp only at h1
  cases ho:ops[i]? with
  |none=>rw[ho] at h1;cases h1
  |some o=>
   rw[ho] at h1
   simp only[Bool.and_eq_true,if_pos hi] at h1
   obtain⟨_,⟨⟨⟨g1,g2⟩,g4⟩,_⟩,g6⟩:=h1
   refine⟨o,rfl,by simpa using g1,(fun cs b hsel=>by rw[hsel] at g2;cases g2),fun t ht j hj hd=> ?_,fun e he hb=> ?_⟩
   ·have h2:=List.all_eq_true.1 g4 (.tmp t) (by simpa using ht)
    dsimp only at h2
    have h3:=List.all_eq_true.1 h2 j (List.mem_range.2 hj)
    simp only[Bool.or_eq_true,bne_iff_ne,Bool.and_eq_true,decide_eq_true_eq,List.any_eq_true,beq_iff_eq] at h3
    rcases h3 with h3|⟨h3,e,he,h4⟩
    ·exact absurd hd h3
    ·exact⟨h3,e,by simpa using he,h4⟩
   ·have h2:=Array.all_eq_true_iff_forall_mem.1 g6 e he
    rw[hb] at h2
    simpa using h2
 have fin:∀(listed:Array Bool),listed.size=ops.size→Region.ready .any ops listed=[]→∀i,i<ops.size→listed.getD i false=true:=by
  intro listed hl hr i
  induction i using Nat.strongRecOn with
  |_ i ih=>
   intro hi
   by_cases hb:listed.getD i false=true
   ·exact hb
   ·exfalso
    have hi':i<listed.size:=by omega
    have h0:listed.getD i true=false:=by
     simp[hi'] at hb ⊢
     exact hb
    obtain⟨o,ho,_,_,_,dZ⟩:=hop i hi
    have hm:i∈Region.ready .any ops listed:=by
     rw[mem_ready]
     refine⟨h0,o,ho,fun e he hbd=> ?_⟩
     have:=dZ e he hbd
     exact ih e.on this (by omega)
    rw[hr] at hm
    cases hm
 have key:∀(fuel:Nat) (listed:Array Bool) (w:World),listed.size=ops.size→listed.toList.count false=fuel→C (fun j=>listed.getD j false) w→(∀j o',ops[j]? =some o'→listed.getD j false=true→∀e∈o'.after,Region.binds .any e=true→listed.getD e.on false=true)→
  wpAnyIn (Fence.wide.inRound l) n P .any ops Q fuel listed (part ops a0 val (fun j=>listed.getD j false) ops.size) w:=by
  intro fuel
  induction fuel with
  |zero=>
   intro listed w hl hc hC hdc
   have hall:∀i,i<ops.size→listed.getD i false=true:=fun i hi=>by
    have hm:¬false∈listed.toList:=fun h=>by
     have:=List.count_pos_iff.2 h
     omega
    have hi':i<listed.size:=by omega
    by_cases nM:listed[i]=true
    ·simp[hi',nM]
    ·exfalso
     have e:listed[i]=false:=by simpa using nM
     exact hm (by rw[←e];simp)
   refine⟨?_,by rw[ot hall];exact hend _ _ hall hC⟩
   refine List.eq_nil_iff_forall_not_mem.2 fun i hi=> ?_
   rw[mem_ready] at hi
   obtain⟨h0,o,ho,_⟩:=hi
   have h1:=hall i (Array.getElem?_eq_some_iff.1 ho).1
   have hi':i<listed.size:=by have:=(Array.getElem?_eq_some_iff.1 ho).1;omega
   simp[hi'] at h0 h1
   rw[h0] at h1
   cases h1
  |succ fuel ih=>
   intro listed w hl hc hC hdc
   refine⟨fun hr=>by rw[ot (fin listed hl hr)];exact hend _ _ (fin listed hl hr) hC,fun i hi=> ?_⟩
   rw[mem_ready] at hi
   obtain⟨h0,o,ho,bU⟩:=hi
   have hin:=(Array.getElem?_eq_some_iff.1 ho).1
   have hi':i<listed.size:=by omega
   obtain⟨o',ho',hgd,hsel,hread,_⟩:=hop i hin
   rw[ho] at ho'
   cases ho'
   have bO:listed.getD i false=false:=by
    simp[hi'] at h0 ⊢
    exact h0
   have hev:execOp (part ops a0 val (fun j=>listed.getD j false) ops.size).eval o=execOp (canon ops a0 val i).eval o:=by
    refine execOp_congr o hsel fun x hx=> ?_
    cases x with
    |tmp t=>
     refine nk (fun i j hij=>hone i j t hij) (by omega) fun j hj hd=> ?_
     obtain⟨h1,e,he,hbd,rfl⟩:=hread t hx j (by omega) hd
     exact⟨h1,bU e he hbd⟩
    |_=>rfl
   have qI:=hstep i o (fun j=>listed.getD j false) w (canon ops a0 val i).eval ho bO hC bU hdc (fun j t hj hd ht=>by
    rw[cZ,kI hd (fun i hi=>hone i j t hi hd) rfl i hj,if_pos (by rw[hN];exact ht)]) (fun t ht=>by
    rw[cZ,fP i fun j hj _=>by
     have:=List.all_eq_true.1 ht j (List.mem_range.2 hj)
     simpa using this]) (fun v=>rfl) (fun f=>rfl)
   unfold wpOpIn
   rw[ho]
   dsimp only
   have hw:Region.wanted o (yielded ops (part ops a0 val (fun j=>listed.getD j false) ops.size).tmps)=true:=by
    unfold Region.wanted
    rw[hgd]
   rw[if_pos hw]
   have hnd:∀c,o.op≠.defer c:=fun c e=>by
    have:=Array.all_eq_true_iff_forall_mem.1 A7 o (Array.mem_of_getElem? ho)
    unfold qD at this
    rw[e] at this
    cases this
   have tE:cF P o (part ops a0 val (fun j=>listed.getD j false) ops.size).eval w fun v w'=>v=val i∧C (bQ (fun j=>listed.getD j false) i) w':=by
    unfold cF at qI ⊢
    rw[hev]
    exact qI
   refine tE.wpIn hnd fun v w' hv=> ?_
   obtain⟨rfl,hC'⟩:=hv
   have A5:o.dst=dst ops i:=by unfold dst;rw[ho];rfl
   have fu:∀j,(listed.setIfInBounds i true).getD j false=if j=i then true else listed.getD j false:=fun j=>by
    by_cases e:j=i
    ·subst e
     rw[if_pos rfl]
     simp[hi']
    ·rw[if_neg e]
     exact getD_set_ne false (fun h=>e h.symm)
   rw[A5,rM hone bO hin,nj (L':=fun j=>(listed.setIfInBounds i true).getD j false) (ρ':=val) (fun j=>(fu j).symm) (fun j _=>by unfold upd;split;rename_i e;rw[e];rfl)]
   refine ih (listed.setIfInBounds i true) w' (by simpa using hl) ?_ ?_ ?_
   ·rw[Array.toList_setIfInBounds]
    have hi2:i<listed.toList.length:=by simpa using hi'
    have e:listed.toList[i]=false:=by
     simp[hi'] at h0
     simpa using h0
    have hpos:0<listed.toList.count false:=List.count_pos_iff.2 (by rw[←e];exact List.getElem_mem hi2)
    rw[List.count_set hi2,e,if_pos (by decide),if_neg (by decide)]
    omega
   ·have e:(fun j=>(listed.setIfInBounds i true).getD j false)=bQ (fun j=>listed.getD j false) i:=funext fun j=>by rw[fu];rfl
    rw[e]
    exact hC'
   ·intro j o' hj hjl e he uV
    rw[fu] at hjl ⊢
    by_cases e1:e.on=i
    ·rw[if_pos e1]
    ·rw[if_neg e1]
     by_cases e2:j=i
     ·subst e2
      rw[ho] at hj
      cases hj
      exact bU e he uV
     ·rw[if_neg e2] at hjl
      exact hdc j o' hj hjl e he uV
 have hnone:∀j,(Array.replicate ops.size false).getD j false=false:=fun j=>by by_cases hk:j<ops.size<;>simp[hk]
 have h0:part ops a0 val (fun j=>(Array.replicate ops.size false).getD j false) ops.size=a0:=by
  have:∀k,part ops a0 val (fun j=>(Array.replicate ops.size false).getD j false) k=a0:=by
   intro k
   induction k with
   |zero=>rfl
   |succ k ih=>
    unfold part
    rw[ih,hnone k,if_neg (by decide)]
  exact this _
 have hk:=key ops.size (Array.replicate ops.size false) w0 (by simp) (by simp) (by rw[show(fun j=>(Array.replicate ops.size false).getD j false)=fun _=>false from funext hnone];exact tL) (fun j o' _ h=>by rw[hnone j] at h;cases h)
 rw[h0] at hk
 exact hk
theorem XI {P:Program} {l n:Nat} {ops:Array Oper} {Q:Exit→Act→World→Prop} {a0:Act} {w0:World} (val:Nat→Value) (C:(Nat→Bool)→World→Prop) (N:Nat) (hN:a0.tmps.size=N) (hsh:shape ops ops.size (fun _=>[])=true) (A7:ops.all qD=true)
 (tL:C (fun _=>false) w0)
 (hstep:∀i o (L:Nat→Bool) w (ev:Operand→Value),ops[i]? =some o→L i=false→C L w→(∀e∈o.after,Region.binds .any e=true→L e.on=true)→(∀j o',ops[j]? =some o'→L j=true→∀e∈o'.after,Region.binds .any e=true→L e.on=true)→
   (∀j t,j<i→dst ops j=some t→t<N→ev (.tmp t)=val j)→(∀t,((List.range i).all fun j=>dst ops j != some t)=true→ev (.tmp t)=a0.eval (.tmp t))→(∀v,ev (.const v)=v)→(∀f,ev (.func f)= .func (.func f) #[] #[])→
   cF P o ev w fun v w'=>v=val i∧C (bQ L i) w')
 (hend:∀L w a,(∀i,i<ops.size→L i=true)→C L w→Q .normal a w):
 wpAnyIn (Fence.wide.inRound l) n P .any ops Q ops.size (Array.replicate ops.size false) a0 w0:=
 BI val C N hN hsh A7 tL hstep (fun L w h1 h2=>hend L w _ h1 h2)
end aj
end
section
open Go.RowKit
namespace Lo
def gT (p:Int×Int) (h:Int):Int×Int:=if h<p.1 then (h,p.1) else if p.1<h∧h<p.2 then (p.1,h) else p
def nh (p:Int×Int) (hs:List Int):Int×Int:=hs.foldl gT p
def mS (m:Int) (X:List Int) (p:Int×Int):Prop:=p.1=least m X∧p.2=least m (X.filter fun x=>decide (p.1<x))
theorem GL {m:Int} {X Y:List Int} (h:∀x,x∈X↔x∈Y):least m X=least m Y:=by
 have h1:=least_le m X
 have h2:=least_le m Y
 rcases eG m X with e1|e1<;>rcases eG m Y with e2|e2
 ·omega
 ·have:=h1.2 _ ((h _).2 e2);have:=h2.1;omega
 ·have:=h2.2 _ ((h _).1 e1);have:=h1.1;omega
 ·have:=h1.2 _ ((h _).2 e2);have:=h2.2 _ ((h _).1 e1);omega
theorem mS.start (m:Int):mS m [] (m,m):=⟨rfl,rfl⟩
theorem mS.more {m:Int} {X:List Int} {p:Int×Int} (h:mS m X p) (x:Int):mS m (X++[x]) (gT p x):=by
 obtain⟨a,b⟩:=p
 obtain⟨h1,h2⟩:=h
 dsimp only at h1 h2
 have l1:=least_le m X
 have ha:∀y∈X,a≤y:=fun y hy=>by rw[h1];exact l1.2 y hy
 have hm:a≤m:=by rw[h1];exact l1.1
 have lX:b≤m:=by rw[h2];exact(least_le m _).1
 unfold gT
 dsimp only
 by_cases c1:x<a
 ·rw[if_pos c1]
  refine⟨?_,?_⟩
  ·dsimp only
   rw[jm,←h1]
   omega
  ·dsimp only
   rw[h1]
   refine GL fun y=> ?_
   rw[List.mem_filter,List.mem_append,List.mem_singleton,decide_eq_true_iff]
   constructor
   ·exact fun hy=>⟨.inl hy,by have:=ha y hy;omega⟩
   ·rintro⟨hy|hy,hlt⟩
    ·exact hy
    ·omega
 ·rw[if_neg c1]
  by_cases c2:a<x∧x<b
  ·rw[if_pos c2]
   refine⟨?_,?_⟩
   ·dsimp only
    rw[jm,←h1]
    omega
   ·dsimp only
    rw[List.filter_append,List.filter_cons_of_pos (by simpa using c2.1)]
    show x=least m (_++[x])
    rw[jm,←h2]
    omega
  ·rw[if_neg c2]
   refine⟨?_,?_⟩
   ·dsimp only
    rw[jm,←h1]
    omega
   ·dsimp only
    rw[List.filter_append]
    by_cases c3:a<x
    ·rw[List.filter_cons_of_pos (by simpa using c3)]
     show b=least m (_++[x])
     rw[jm,←h2]
     omega
    ·rw[List.filter_cons_of_neg (by simpa using c3),List.filter_nil,List.append_nil]
     exact h2
theorem mS.many {m:Int}:∀(Y X:List Int) (p:Int×Int),mS m X p→mS m (X++Y) (nh p Y)
 |[],X,p,h=>by rw[List.append_nil];exact h
 |y::Y,X,p,h=>by
  have:=mS.many Y (X++[y]) (gT p y) (h.more y)
  rw[List.append_assoc] at this
  exact this
theorem Je (p:Int×Int) (l:List Int) (x:Int):nh p (l++[x])=gT (nh p l) x:=by
 unfold nh
 rw[List.foldl_append]
 rfl
end Lo
def Ow (Bl B2:Nat) (p:Int×Int) (w:World) (e:Ending) (w':World):Prop:=
 e= .returned (.tuple #[.int .i64 p.1,.int .i64 p.2])∧Boxed w' Bl 3 (.int .i64 p.1)∧Boxed w' B2 3 (.int .i64 p.2)∧aF (fun k=>k=Bl∨k=B2) w w'
set_option maxRecDepth 100000 in
set_option maxHeartbeats 4000000 in
theorem wF (Bl B2:Nat) (p:Int×Int) (ao:Option Addr) (c:Nat) (hs:List Int) (w:World) (hne:Bl≠B2) (b1:Boxed w Bl 3 (.int .i64 p.1)) (b2:Boxed w B2 3 (.int .i64 p.2)) (hl:hs.length≤8388608)
 (hc:∀V,aF (fun k=>k=Bl∨k=B2) w V→dc V ao hs):
 Calls Tryz.prog 158 #[.slice ao hs.length c,.pointer (some ⟨Bl,0,none⟩),.pointer (some ⟨B2,0,none⟩)] w (Ow Bl B2 (Lo.nh p hs) w):=by
 have HC:=Nu.hid hc
 have aV:=Nu.hid b1
 have cz:=Nu.hid b2
 clear hc b1 b2
 go_enter Tryz.func158,Tryz.ntmps158
 go_wp2
 go_loopw [10] (fun i wr=>∃k:Nat,k≤hs.length∧i= .int .i64 k∧Boxed wr Bl 3 (.int .i64 (Lo.nh p (hs.take k)).1)∧Boxed wr B2 3 (.int .i64 (Lo.nh p (hs.take k)).2)∧aF (fun k=>k=Bl∨k=B2) w wr) (fun i _=>hs.length-(intOf i).toNat)
 case atStart=>exact⟨0,Nat.zero_le _,rfl,aV.out,cz.out,aF.refl _ _⟩
 case round=>
  obtain⟨k,hk,rfl,hb1,hb2,hw⟩:=hrel
  have x1:=hb1.cell
  have x2:=hb2.cell
  have f1:=hb1.frozen
  have f2:=hb2.frozen
  by_cases hlt:k<hs.length
  ·obtain⟨z,hz⟩:∃z,hs[k]? =some z:=⟨_,List.getElem?_eq_getElem hlt⟩
   obtain⟨b,o,rfl,hcz⟩:=HC.out wr hw k z hz
   have l7:Hid (Lo.nh p (hs.take (k+1))=Lo.gT (Lo.nh p (hs.take k)) z):=by
    show _=_
    rw[List.take_add_one,hz]
    exact Lo.Je _ _ _
   obtain⟨q,hq⟩:∃q,Lo.nh p (hs.take k)=q:=⟨_,rfl⟩
   obtain⟨a,b'⟩:=q
   rw[hq] at l7 x1 x2 hb1 hb2
   dsimp only at x1 x2 hb1 hb2
   have k0:(0:Int)≤(k:Int):=by omega
   have k1:(k:Int)<(hs.length:Int):=by omega
   have HW:=Nu.hid hw
   have OJ:=Nu.hid hb1
   have OI:=Nu.hid hb2
   clear hw hz hq hb1 hb2
   by_cases c1:z<a
   ·have HT:Hid (Lo.gT (a,b') z=(z,a)):=by
     show _=_
     unfold Lo.gT
     rw[if_pos c1]
    go_wp2
    go_roundw
    case rel=>
     refine⟨k+1,by omega,by go_num,?_,?_,(HW.out.setCell (.inl rfl) _).setCell (.inr rfl) _⟩
     ·rw[l7.out,HT.out]
      exact(Boxed.set _ OJ.out).other hne _
     ·rw[l7.out,HT.out]
      exact Boxed.set _ (OI.out.other hne.symm _)
    case measure=>simp[intOf];omega
   ·by_cases c2:a<z
    ·by_cases c3:z<b'
     ·have HT:Hid (Lo.gT (a,b') z=(a,z)):=by
       show _=_
       unfold Lo.gT
       rw[if_neg c1,if_pos ⟨c2,c3⟩]
      go_wp2
      go_roundw
      case rel=>
       refine⟨k+1,by omega,by go_num,?_,?_,HW.out.setCell (.inr rfl) _⟩
       ·rw[l7.out,HT.out]
        exact OJ.out.other hne _
       ·rw[l7.out,HT.out]
        exact Boxed.set _ OI.out
      case measure=>simp[intOf];omega
     ·have HT:Hid (Lo.gT (a,b') z=(a,b')):=by
       show _=_
       unfold Lo.gT
       rw[if_neg c1,if_neg (fun h=>c3 h.2)]
      go_wp2
      go_roundw
      case rel=>exact⟨k+1,by omega,by go_num,by rw[l7.out,HT.out];exact OJ.out,by rw[l7.out,HT.out];exact OI.out,HW.out⟩
      case measure=>simp[intOf];omega
    ·have HT:Hid (Lo.gT (a,b') z=(a,b')):=by
      show _=_
      unfold Lo.gT
      rw[if_neg c1,if_neg (fun h=>c2 h.1)]
     go_wp2
     go_roundw
     case rel=>exact⟨k+1,by omega,by go_num,by rw[l7.out,HT.out];exact OJ.out,by rw[l7.out,HT.out];exact OI.out,HW.out⟩
     case measure=>simp[intOf];omega
  ·have hd:¬((k:Int)<(hs.length:Int)):=by omega
   rw[List.take_of_length_le (by omega)] at x1 x2 hb1 hb2
   have HW:=Nu.hid hw
   have OJ:=Nu.hid hb1
   have OI:=Nu.hid hb2
   clear hw hb1 hb2
   go_wp2_with fail
   go_quiet (fail)
   go_wp2
   refine bodyPost_ret (results_tmp2 rfl _ _ _) rfl ?_
   exact⟨rfl,OJ.out,OI.out,HW.out.drewN _⟩
end
end Go.Proofs.YtnhcggfbkoppnaaGreat
