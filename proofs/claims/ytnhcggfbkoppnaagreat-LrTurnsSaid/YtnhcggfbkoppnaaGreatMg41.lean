import Derived.Test.YtnhcggfbkoppnaaGreatMg05
import Derived.Test.YtnhcggfbkoppnaaGreatMg40
namespace Go.Proofs.YtnhcggfbkoppnaaGreat
section
open Go.ChangeShapes Go.WideShapes Go.ChangeAt Go.RowKit
theorem Fo:Tryz.prog.cellsOf 36=4:=by kernel_rfl
theorem KS:Tryz.prog.cellsOf 27=1:=by kernel_rfl
def Sm (l:List Int):Prop:=∀x∈l,-9223372036854775808≤x∧x≤9223372036854775807
section
variable {H:Type} {enc:TypeId×Value→H} {W:World}
theorem uP {fuel:Nat} {v:Value} {y:DataW H×List MemPlace} (h:DataW.trod enc Tryz.prog W 0 (fun _=>true) true fuel 27 [v]=some y):
 ∃(a:Option Addr) (cap:Nat) (l:List Int),v= .slice a l.length cap∧iu W a l.length cap l∧Sm l∧((y.1= .nil∧l=[])∨∃es rest,y.1= .slice es rest∧l.length≤es.length)∧l.length≤cap:=by
 rcases open_ints Tryz.underlying27 Tryz.underlying3 D5 h with ⟨hcs,hy⟩|⟨x,l,c,zs,hcs,_,hl,hm,hz,hx,hcell,PM⟩
 ·simp at hcs
  subst hcs
  exact⟨none,0,[],rfl,⟨rfl,dc.nil _ _,fun _=>⟨rfl,rfl⟩⟩,fun x hx=>by simp at hx,.inl ⟨by rw[hy],rfl⟩,Nat.le_refl _⟩
 ·simp at hcs
  subst hcs
  have hz':zs.length=c:=by simpa using hz
  have hlen:(zs.take l).length=l:=by simp;omega
  have hr:rq .i64 0 W (some x) l c zs:= .inr ⟨x,rfl,hl,by omega,hz',hcell,PM⟩
  refine⟨some x,c,zs.take l,by rw[hlen],?_,fun q hq=> ?_,.inr ?_,by rw[hlen];exact hl⟩
  ·rw[hlen]
   refine⟨hlen,fun j z hj=> ?_,fun e=>by cases e⟩
   rw[List.getElem?_take] at hj
   by_cases hjl:j<l
   ·rw[if_pos hjl] at hj
    have hlt:j<zs.length:=by omega
    have Ku:=hcell j hlt
    rw[List.getD_eq_getElem?_getD,hj] at Ku
    obtain⟨b,o,sp⟩:=x
    have hsp:sp=none:=by simpa[Addr.add] using World.cell?_spot (hcell 0 (by omega))
    subst hsp
    refine⟨b,o,rfl,?_⟩
    have e:((⟨b,o,none⟩:Addr).add j)=⟨b,o+j,none⟩:=by
     by_cases h0:j=0<;>simp[Addr.add,h0]
    rw[e] at Ku
    exact Ku
   ·rw[if_neg hjl] at hj
    cases hj
  ·exact wf_i64 (PM q (List.mem_of_mem_take hq))
  ·refine⟨_,_,by rw[hx],?_⟩
   simp[lits]
theorem Ik {e:TypeId} {f0 f1 f2 f3:Field} (he:Tryz.prog.underlying e=some (.struct #[f0,f1,f2,f3])) (o0:f0.offset=0) (o1:f1.offset=1) (o2:f2.offset=2) (o3:f3.offset=3) (t0:f0.type=27) (t1:f1.type=27) (t2:f2.type=27) (t3:f3.type=27)
 {fuel:Nat} {u1 u2 u3 u4:Value} {x:DataW H×List MemPlace} (h:DataW.trod enc Tryz.prog W 0 (fun _=>true) true fuel e [u1,u2,u3,u4]=some x):
 ∃(m:Nat) (y1 y2 y3 y4:DataW H×List MemPlace),DataW.trod enc Tryz.prog W 0 (fun _=>true) true m 27 [u1]=some y1∧DataW.trod enc Tryz.prog W 0 (fun _=>true) true m 27 [u2]=some y2∧DataW.trod enc Tryz.prog W 0 (fun _=>true) true m 27 [u3]=some y3∧DataW.trod enc Tryz.prog W 0 (fun _=>true) true m 27 [u4]=some y4∧x.1= .agg [y1.1,y2.1,y3.1,y4.1]:=by
 obtain⟨xs,m,_,J7,hl,hx,hf⟩:=DataW.trod_struct he h
 match xs,hx with
 |[y1,y2,y3,y4],_=>
  have g0:=hf 0 f0 rfl
  have g1:=hf 1 f1 rfl
  have g2:=hf 2 f2 rfl
  have g3:=hf 3 f3 rfl
  simp only[o0,o1,o2,o3,t0,t1,t2,t3,KS] at g0 g1 g2 g3
  exact⟨m,y1,y2,y3,y4,by simpa using g0,by simpa using g1,by simpa using g2,by simpa using g3,by rw[J7];rfl⟩
end
end
section
open Go.ChangeShapes Go.WideShapes Go.ChangeAt Go.RowKit
theorem KT:Tryz.prog.cellsOf 43=7:=by kernel_rfl
theorem KR:Tryz.prog.cellsOf 28=1:=by kernel_rfl
section
variable {H:Type} {enc:TypeId×Value→H} {W:World}
theorem Nx {fuel:Nat} {v:Value} {y:DataW H×List MemPlace} (h:DataW.trod enc Tryz.prog W 0 (fun _=>true) true fuel 28 [v]=some y):
 ∃(a:Option Addr) (cap:Nat) (l:List Int),v= .slice a l.length cap∧iu W a l.length cap l∧Sm l∧((y.1= .nil∧l=[])∨∃es rest,y.1= .slice es rest∧l.length≤es.length)∧l.length≤cap:=by
 rcases open_ints Tryz.underlying28 Tryz.underlying3 D5 h with ⟨hcs,hy⟩|⟨x,l,c,zs,hcs,_,hl,hm,hz,hx,hcell,PM⟩
 ·simp at hcs
  subst hcs
  exact⟨none,0,[],rfl,⟨rfl,dc.nil _ _,fun _=>⟨rfl,rfl⟩⟩,fun x hx=>by simp at hx,.inl ⟨by rw[hy],rfl⟩,Nat.le_refl _⟩
 ·simp at hcs
  subst hcs
  have hz':zs.length=c:=by simpa using hz
  have hlen:(zs.take l).length=l:=by simp;omega
  have hr:rq .i64 0 W (some x) l c zs:= .inr ⟨x,rfl,hl,by omega,hz',hcell,PM⟩
  refine⟨some x,c,zs.take l,by rw[hlen],?_,fun q hq=> ?_,.inr ?_,by rw[hlen];exact hl⟩
  ·rw[hlen]
   refine⟨hlen,fun j z hj=> ?_,fun e=>by cases e⟩
   rw[List.getElem?_take] at hj
   by_cases hjl:j<l
   ·rw[if_pos hjl] at hj
    have hlt:j<zs.length:=by omega
    have Ku:=hcell j hlt
    rw[List.getD_eq_getElem?_getD,hj] at Ku
    obtain⟨b,o,sp⟩:=x
    have hsp:sp=none:=by simpa[Addr.add] using World.cell?_spot (hcell 0 (by omega))
    subst hsp
    refine⟨b,o,rfl,?_⟩
    have e:((⟨b,o,none⟩:Addr).add j)=⟨b,o+j,none⟩:=by
     by_cases h0:j=0<;>simp[Addr.add,h0]
    rw[e] at Ku
    exact Ku
   ·rw[if_neg hjl] at hj
    cases hj
  ·exact wf_i64 (PM q (List.mem_of_mem_take hq))
  ·refine⟨_,_,by rw[hx],?_⟩
   simp[lits]
theorem Cl {e:TypeId} {f0 f1 f2:Field} (he:Tryz.prog.underlying e=some (.struct #[f0,f1,f2])) (o0:f0.offset=0) (o1:f1.offset=2) (o2:f2.offset=6) (t0:f0.type=24) (t1:f1.type=36) (t2:f2.type=28)
 {fuel:Nat} {u0 u1 u2 u3 u4 u5 u6:Value} {x:DataW H×List MemPlace} (h:DataW.trod enc Tryz.prog W 0 (fun _=>true) true fuel e [u0,u1,u2,u3,u4,u5,u6]=some x):
 ∃(m:Nat) (y1 y2 y3:DataW H×List MemPlace),DataW.trod enc Tryz.prog W 0 (fun _=>true) true m 24 [u0,u1]=some y1∧DataW.trod enc Tryz.prog W 0 (fun _=>true) true m 36 [u2,u3,u4,u5]=some y2∧DataW.trod enc Tryz.prog W 0 (fun _=>true) true m 28 [u6]=some y3∧x.1= .agg [y1.1,y2.1,y3.1]:=by
 obtain⟨xs,m,_,J7,hl,hx,hf⟩:=DataW.trod_struct he h
 match xs,hx with
 |[y1,y2,y3],_=>
  have g0:=hf 0 f0 rfl
  have g1:=hf 1 f1 rfl
  have g2:=hf 2 f2 rfl
  simp only[o0,o1,o2,t0,t1,t2,Iy,Fo,KR] at g0 g1 g2
  exact⟨m,y1,y2,y3,by simpa using g0,by simpa using g1,by simpa using g2,by rw[J7];rfl⟩
set_option maxRecDepth 100000 in
theorem CU {base:Nat} {v:Value} {d:DataW H} {p:List MemPlace} {ts:List TypeId} {ds:List (DataW H)} {j:Nat} (hval:Value.okWide Tryz.prog W .any base 43 v)
 (h:DataW.Trod enc Tryz.prog W 0 (fun _=>true) true 43 v d p) (hsz:(DataW.weightsEach Tryz.prog ts ds).all (·≤reachBytes)=true) (hts:ts[j]? =some 43) (hds:ds[j]? =some d):
 ∃(n:Int) (a:Option Addr) (cap:Nat) (qs:List (Int×Int)) (f:For) (s:Df.St) (pa:Option Addr) (pc:Nat) (ps:List Int),v= .agg #[.int .i64 n,.slice a qs.length cap,.slice f.a1 s.par.length f.c1,.slice f.a2 s.ay.length f.c2,.slice f.a3 s.ord.length f.c3,.slice f.a4 s.aJ.length f.c4,.slice pa ps.length pc]∧BP W a qs.length cap qs∧qs.length*16≤140737488351232∧dF W f s∧iu W pa ps.length pc ps∧ps.length≤17592186043904:=by
 obtain⟨cs,rfl,hcs⟩:=okWide_struct Tryz.underlying43 hval
 rw[KT] at hcs
 obtain⟨fuel,hf⟩:=h
 obtain⟨cl⟩:=cs
 match cl,hcs with
 |[u0,u1,u2,u3,u4,u5,u6],_=>
  obtain⟨m,e1,e2,e3,b1,b2,b3,hdd⟩:=Cl Tryz.underlying43 rfl rfl rfl rfl rfl rfl hf
  dsimp only at hdd
  obtain⟨m0,y0,y1,g0,g1,J7⟩:=Nk Tryz.underlying24 rfl rfl rfl rfl Iz b1
  obtain⟨n,q0,hy0,w0⟩:=DataW.trod_int Tryz.underlying3 g0
  simp at q0
  subst q0
  obtain⟨pa,pc,ps,rfl,rp,_,wp,_⟩:=Nx b3
  have hsl:∃a len cap,u1= .slice a len cap:=by
   rcases Deep.open_slice Tryz.underlying22 g1 with ⟨hc,_⟩|⟨ad,l,c,_,_,_,_,hc,_⟩
   ·simp at hc;exact⟨_,_,_,hc⟩
   ·simp at hc;exact⟨_,_,_,hc⟩
  obtain⟨a,len,cap,rfl⟩:=hsl
  obtain⟨qs,hq,hd⟩:=Nd Tryz.underlying22 BA (fun n cs y hy=>MN hy) g1
  have NH:=hq.hlen
  subst NH
  obtain⟨m',z1,z2,z3,z4,k1,k2,k3,k4,hde⟩:=Ik Tryz.underlying36 rfl rfl rfl rfl rfl rfl rfl rfl b2
  obtain⟨a1,c1,l1,rfl,r1,i1,w1,_⟩:=uP k1
  obtain⟨a2,c2,l2,rfl,r2,i2,w2,_⟩:=uP k2
  obtain⟨a3,c3,l3,rfl,r3,i3,w3,_⟩:=uP k3
  obtain⟨a4,c4,l4,rfl,r4,i4,w4,_⟩:=uP k4
  rw[hde,J7] at hdd
  have lim:∀(y:DataW H×List MemPlace) (l:List Int),y∈[z1,z2,z3,z4]→((y.1= .nil∧l=[])∨∃es rest,y.1= .slice es rest∧l.length≤es.length)→l.length≤17592186043904:=fun y l hy hw=>by
   rcases hw with ⟨_,rfl⟩|⟨es,rest,e,hle⟩
   ·simp
   ·have hw:=List.all_eq_true.1 hsz _ (DataW.weights_mem_each hts hds ((es.length+rest.length)*Tryz.prog.bytesOf 3) (by
     rw[hdd]
     simp only[List.mem_cons,List.not_mem_nil,or_false] at hy
     rcases hy with rfl|rfl|rfl|rfl<;>simp[DataW.weightsEach,DataW.weights,Tryz.underlying43,Tryz.underlying36,Tryz.underlying27,e]))
    rw[D6] at hw
    have hw2:(es.length+rest.length)*8≤reachBytes:=of_decide_eq_true hw
    simp only[reachBytes] at hw2
    omega
  have ab8:ps.length≤17592186043904:=by
   rcases wp with ⟨_,rfl⟩|⟨es,rest,e,hle⟩
   ·simp
   ·have hw:=List.all_eq_true.1 hsz _ (DataW.weights_mem_each hts hds ((es.length+rest.length)*Tryz.prog.bytesOf 3) (by
     rw[hdd]
     simp[DataW.weightsEach,DataW.weights,Tryz.underlying43,Tryz.underlying28,e]))
    rw[D6] at hw
    have hw2:(es.length+rest.length)*8≤reachBytes:=of_decide_eq_true hw
    simp only[reachBytes] at hw2
    omega
  refine⟨n,a,cap,qs,⟨a1,a2,a3,a4,c1,c2,c3,c4⟩,⟨l1,l2,l3,l4⟩,pa,pc,ps,rfl,hq,?_,⟨r1,r2,r3,r4,lim z1 l1 (by simp) w1,lim z2 l2 (by simp) w2,lim z3 l3 (by simp) w3,lim z4 l4 (by simp) w4⟩,rp,ab8⟩
  rcases hd with ⟨_,rfl⟩|⟨es,rest,hd,hle⟩
  ·simp
  ·have hw:=List.all_eq_true.1 hsz _ (DataW.weights_mem_each hts hds ((es.length+rest.length)*Tryz.prog.bytesOf 55) (by
    rw[hdd]
    simp[DataW.weights,DataW.weightsEach,Tryz.underlying43,Tryz.underlying24,Tryz.underlying22,hd]))
   rw[KV] at hw
   have hw2:(es.length+rest.length)*16≤reachBytes:=of_decide_eq_true hw
   simp only[reachBytes] at hw2
   omega
end
end
end Go.Proofs.YtnhcggfbkoppnaaGreat
