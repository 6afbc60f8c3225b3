import Derived.Test.YtbhdibflpjhpaaaGreatMg44
import Derived.Test.YtbhdibflpjhpaaaGreatMg34
set_option maxHeartbeats 16000000
set_option maxRecDepth 100000
namespace Go.Proofs.YtbhdibflpjhpaaaGreat
section
open Go.Proofs.Tryz
open Go.RowKit Lt
theorem nO {c:Wp} (hv:Si.Val c.n c.es) {u:Nat} (hu:u<2*c.es.length):OJ c.env (u:Int)=some (Cs.fr c.es u:Int)/\Rj c.env (u:Int)=some (Cs.to c.es u:Int):=by
 obtain⟨k,hk⟩:∃k,u/2=k:=⟨_,rfl⟩;obtain⟨q,hq⟩:∃q,c.es[k]? =some q:=⟨_,aac (by omega)⟩;have hok:=hv.each k q hq;unfold Si.ok at hok;obtain⟨k1,-⟩:=nJ hk;have us:bF c.env.us (k:Int)=some q.1:=by
  unfold bF;rw[if_pos (by omega)];show(c.es.map (·.1))[((k:Int)).toNat]? =_;rw[show((k:Int)).toNat=k from by simp,abU,hq];rfl
 have vs:bF c.env.vs (k:Int)=some q.2:=by
  unfold bF;rw[if_pos (by omega)];show(c.es.map (·.2))[((k:Int)).toNat]? =_;rw[show((k:Int)).toNat=k from by simp,abU,hq];rfl
 unfold OJ Rj;rw[k1,us,vs];have hm:((u:Int)).tmod 2=((u%2:Nat):Int):=by rw[aeL (by omega)];omega
 rw[hm];rcases adw u with e|e
 .rw[e,if_pos (by simp),if_pos (by simp)]
  have h1:=Cs.eP hq;rw[show 2*k=u by omega] at h1;rw[h1.1,h1.2];exact⟨by congr 1;omega,by congr 1;omega⟩
 .rw[e,if_neg (by simp),if_neg (by simp)]
  have h1:=Cs.pN hq;rw[show 2*k+1=u by omega] at h1;rw[h1.1,h1.2];exact⟨by congr 1;omega,by congr 1;omega⟩
theorem at_at {l:List Int} {v:Nat} (h:v<l.length):bF l (v:Int)=some (Df.at_ l v):=by
 unfold bF;rw[if_pos (by omega)];show l[((v:Int)).toNat]? =_;rw[show((v:Int)).toNat=v from by simp];unfold Df.at_;simp[h]
section
variable {c:Wp} {p t:Nat} {W0 W:World} {O:Nat->Prop} {st:TS} {L U Z:Nat} {vp vw:Value}
theorem dG.outs (h:dG c p W) {v:Nat} {l:List Int} (hl:(Lo.bY c.n c.es c.s c.es.length)[v]? =some l):∃go co ao ca,c.vo= .slice (some ⟨go,0,none⟩) c.n co/\∀V,Below W.heap.size W V->V.cell? ⟨go,v,none⟩=some (.slice ao l.length ca)/\∀(i:Nat) (x:Int),l[i]? =some x->∃b,ao=some ⟨b,0,none⟩/\V.cell? ⟨b,i,none⟩=some (.int .i64 x):=by
 have hlen:=Lo.fu c.n c.es c.s c.es.length;have eM:v<c.n:=by rw[<-hlen];exact(aaf.1 hl).1
 have ho:=h.out.outer;rw[hlen] at ho;rcases ho.2 with ⟨_,h0⟩|⟨go,co,cur,e,_⟩
 .omega
 .obtain⟨x,hx⟩:=h.out.WZ hl
  have hown:=h.out.row v x l hx hl;rcases hown.2 with ⟨e2,h0⟩|⟨g,cap,anN,e2,_⟩
  .refine⟨go,co,none,0,e,fun V hV=>⟨?_,fun i x hi=> ?_⟩⟩
   .have h2:=(h.out.later hV).outer
    rw[hlen,e] at h2;have:=ac1 h2 (g:=go) rfl v x hx;have ea:((⟨go,0,none⟩:Addr).add v)=⟨go,v,none⟩:=by
     by_cases h0:v=0<;>simp[Addr.add,h0]
    rw[ea,e2] at this;rw[h0];exact this
   .have:=(aaf.1 hi).1
    omega
  .refine⟨go,co,some ⟨g,0,none⟩,cap,e,fun V hV=>⟨?_,fun i y hi=>⟨g,rfl,?_⟩⟩⟩
   .have h2:=(h.out.later hV).outer
    rw[hlen,e] at h2;have:=ac1 h2 (g:=go) rfl v x hx;have ea:((⟨go,0,none⟩:Addr).add v)=⟨go,v,none⟩:=by
     by_cases h0:v=0<;>simp[Addr.add,h0]
    rw[ea,e2] at this;exact this
   .have h3:=hown.later hV
    unfold aH at h3;rw[e2] at h3;have:=ac1 h3 (g:=g) rfl i (.int .i64 y) (by rw[abU,hi];rfl);have ea:((⟨g,0,none⟩:Addr).add i)=⟨g,i,none⟩:=by
     by_cases h0:i=0<;>simp[Addr.add,h0]
    rw[ea] at this;exact this
theorem xR (h:aS c p t W0 O st L U Z vp vw W) {u:Nat} (hu:u<2*c.es.length) {r:Option TS} (hlen:st.stk.length<=8388606) (hwl:st.way.length<=8388607) (ho:Lt.settle c.env st (u:Int)=some r):
 Calls prog 93 #[.pointer (some ⟨t,0,none⟩),.int .i64 (u:Int)] W (iD c p t W0 O W r):=by
 have dH:=h.wk.val.few;have hwk:=h.now;have cG:=nO h.wk.val hu;have hlt:=Cs.bI h.wk.val hu;have hl:=h.wk.vf.lens;obtain⟨k,hk⟩:∃k,u/2=k:=⟨_,rfl⟩;obtain⟨k1,k2⟩:=nJ hk;have hkm:k<c.es.length:=by omega
 have jJ:bF c.env.lw (k:Int)=some (Lo.low c.es c.s k):=by
  show bF c.lw (k:Int)=_;rw[bF,if_pos (by omega)];show(upTo _ _)[((k:Int)).toNat]? =_;rw[show((k:Int)).toNat=k from by simp];exact iR hkm
 have Eb:Bf c.env (u:Int)=some (Df.at_ c.s.ay (Cs.fr c.es u)):=by
  unfold Bf;rw[cG.1];exact at_at (by show _<c.s.ay.length;rw[hl.2.1];exact hlt.1)
 unfold Lt.settle at ho;rw[k1,jJ,Eb] at ho;dsimp only at ho;have x0:=h.cells.1;have tu:=ζ (E5 hwk hu);rw[hk] at tu;by_cases nu:Lo.low c.es c.s k<Df.at_ c.s.ay (Cs.fr c.es u)
 .rw[if_pos nu] at ho
  have hd:decide (Lo.low c.es c.s k<Df.at_ c.s.ay (Cs.fr c.es u))=true:=decide_eq_true nu;rw[hd] at tu;obtain⟨v,hv⟩:∃v,Cs.fr c.es u=v:=⟨_,rfl⟩;have eM:v<c.n:=by rw[<-hv];exact hlt.1
  obtain⟨x,hx⟩:∃x,Df.at_ c.s.par v=x:=⟨_,rfl⟩;have hpar:bF c.env.par (v:Int)=some x:=by rw[<-hx];exact at_at (by show _<c.s.par.length;rw[hl.1];exact eM)
  obtain⟨ab,hab,hx0,hx1⟩:∃ab:Nat,x.tdiv 2=(ab:Int)/\(ab:Int)<=8388608/\0<=(ab:Int):=by
   rcases h.wk.vf.hang v eM with ⟨e1,-⟩|⟨w,hw,e1,-⟩
   .rw[e1] at hx
    subst hx;exact⟨0,by decide,by omega,by omega⟩
   .rw[e1] at hx
    subst hx;exact⟨w/2,(nJ rfl).1,by omega,by omega⟩
  rw[cG.1,hv] at ho;dsimp only[Option.bind_some] at ho;rw[hpar,show((v:Int)).toNat=v from by simp] at ho;cases hol:c.env.outs[v]? with
  |none=>rw[hol] at ho;cases ho
  |some l=>
   rw[hol] at ho;dsimp only[Option.bind_some] at ho;cases hl0:l[0]? with
   |none=>rw[hl0] at ho;cases ho
   |some o=>
    rw[hl0] at ho;dsimp only at ho;rw[hab] at ho;obtain⟨go,co,ao,ca,eo,tT⟩:=hwk.outs hol;obtain⟨bp,op,ep,BN⟩:=hwk.par eM;have hin:=aJ.start h;have ll:0<l.length:=(aaf.1 hl0).1;obtain⟨bo,ebo,-⟩:=(tT W (aae _ _)).2 0 o hl0;have HF:Hid (∀V,Below W.heap.size W V->V.cell? ⟨t,0,none⟩=some (.pointer (some ⟨p,0,none⟩))/\V.cell? ⟨p,2,none⟩=some (.slice (some ⟨bp,op,none⟩) c.n c.f.c1)/\V.cell? ⟨bp,op+v,none⟩=some (.int .i64 x)/\V.cell? ⟨p,9,none⟩=some (.slice (some ⟨go,0,none⟩) c.n co)/\V.cell? ⟨go,v,none⟩=some (.slice (some ⟨bo,0,none⟩) l.length ca)/\V.cell? ⟨bo,0,none⟩=some (.int .i64 o)/\aS c p t W0 O st L U Z vp vw V):=fun V hV=>by
     have hT:=h.later hV;have hW:=hwk.later hV;obtain⟨q1,q2⟩:=tT V hV;obtain⟨b2,e2,q3⟩:=q2 0 o hl0;rw[ebo] at e2 q1;cases e2;have q4:=hW.c2;rw[ep] at q4;have q5:=hW.c9;rw[eo] at q5;exact⟨hT.cells.1,q4,by rw[<-hx];exact BN V hV v eM,q5,q1,q3,hT⟩
    have lA:Hid (∀V,aS c p t W0 O st L U Z vp vw V->Calls prog 110 #[.pointer (some ⟨p,0,none⟩),.int .i64 (u:Int)] V fun e w'=>e= .returned (.int .i64 (v:Int))/\w'=V):=fun V hV=>by rw[<-hv];exact xN hV.now hu
    have t0:(0:Int)<=(v:Int):=by omega
    have t1:(v:Int)<(c.n:Int):=by omega
    have t2:(0:Int)<(l.length:Int):=by omega
    have v0:(0:Int)<=(k:Int):=by omega
    have v1:(k:Int)<(c.es.length:Int):=by omega
    have v2:(k:Int)<=4194304:=by omega
    have hB0:=h.aZ.size;by_cases ho2:o=(u:Int)
    .rw[if_pos ho2] at ho
     cases qI:bF st.lowest (k:Int) with
     |none=>rw[qI] at ho;cases ho
     |some y=>
      rw[qI] at ho;dsimp only at ho;cases hl2:fE st.lowest (ab:Int) y with
      |none=>rw[hl2] at ho;cases ho
      |some l2=>
       rw[hl2] at ho;cases ho;obtain⟨kb,hkb,hkl,rfl⟩:=lR hl2;obtain⟨ky,BF,aaT,YV⟩:=iC qI;obtain rfl:kb=ab:=by omega
       obtain rfl:ky=k:=by omega
       subst ho2;have a1:(kb:Int)<(c.es.length:Int):=by rw[<-h.lz];omega
       have HCE:Hid (∀V,Below W.heap.size W V->V.cell? ⟨t,5,none⟩=some (.slice (some ⟨Z,0,none⟩) c.es.length c.es.length)/\V.cell? ⟨Z,ky,none⟩=some (.int .i64 y)/\(∃q,V.cell? ⟨Z,kb,none⟩=some (.int .i64 q))/\V.frozen? ⟨Z,kb,none⟩=false/\aJ c p t W0 O W (fun _=>False) { st with lowest:=st.lowest.set kb y } (V.setCell ⟨Z,kb,none⟩ (.int .i64 y))):=fun V hV=>by
        have hT:=h.later hV;have q1:=p5 hT.lowest aaT;rw[YV] at q1;refine⟨hT.cells.2.2.2.2.2.1,q1,⟨_,p5 hT.lowest hkl⟩,hT.lowest.free kb,?_⟩;obtain⟨k0,-,-,-⟩:=hin;refine⟨k0,?_,O,fun b hb=> .inl hb,fun b hb=>hb.elim,L,U,Z,vp,vw,hT.wO kb y⟩;exact((az.refl O W).later hV).setCell h.oZ _
       clear h hwk nu hd cG jJ Eb tT BN hin hol hl0 hlt hl hpar hx hv qI hl2 BF hkb YV hkl aaT;go_enter func93,ntmps93;go_wp2_with (go_at_call 111;refine tu.out.mono ?_;rintro e1 w1 ⟨rfl,hb1⟩;have aY:=ζ hb1;obtain⟨y0,y1,y2,y3,y4,y5,xT⟩:=HF.out w1 hb1;have pq:=ζ xT;obtain⟨z1,z2,⟨zq,z3⟩,z4,zT⟩:=HCE.out w1 hb1;have HZT:=ζ zT;clear hb1 xT x0 zT);go_at_call 110;refine(lA.out _ pq.out).mono ?_;rintro e1 w2 ⟨rfl,rfl⟩;go_wp2_with fail;clear y0 y1 y2 y3 y4 y5;go_big_region;go_wp2_with fail;go_ret;exact⟨rfl,HZT.out.drew.post⟩
    .rw[if_neg ho2] at ho
     have HCO:Hid (∀V,Below W.heap.size W V->Calls prog 112 #[.pointer (some ⟨t,0,none⟩),.int .i64 (k:Int),.int .i64 (ab:Int)] V (iD c p t W0 O W r)):=fun V hV=>by
      refine(M4 (HF.out V hV).2.2.2.2.2.2 hlen hwl ho).mono fun e w' hp=> ?_
      cases r with
      |none=>
       obtain⟨st',e1,e2⟩:=hp;exact⟨st',e1,aW.pre hB0 hV e2⟩
      |some st'=>exact⟨hp.1,aW.pre hB0 hV hp.2⟩
     clear h hwk nu hd cG jJ Eb tT BN hin ho hol hl0 hlt hl hpar hx hv;go_enter func93,ntmps93;go_wp2_with (go_at_call 111;refine tu.out.mono ?_;rintro e1 w1 ⟨rfl,hb1⟩;have aY:=ζ hb1;obtain⟨y0,y1,y2,y3,y4,y5,xT⟩:=HF.out w1 hb1;have pq:=ζ xT;clear hb1 xT x0);go_at_call 110;refine(lA.out _ pq.out).mono ?_;rintro e1 w2 ⟨rfl,rfl⟩;go_wp2_with fail;go_at_call 112;refine(HCO.out _ aY.out).mono ?_;intro e1 w3 hp;have HP:=ζ hp;clear hp;cases r with
     |none=>
      obtain⟨st',rfl,hp⟩:=HP.out;have oK:=ζ hp;clear hp HP;go_wp2_with fail;go_ret;exact⟨st',rfl,oK.out⟩
     |some st'=>
      obtain⟨rfl,hp⟩:=HP.out;have oK:=ζ hp;clear hp HP;go_wp2_with fail;go_ret;exact⟨rfl,oK.out⟩
 .rw[if_neg nu] at ho
  cases ho;have hd:decide (Lo.low c.es c.s k<Df.at_ c.s.ay (Cs.fr c.es u))=false:=decide_eq_false nu;rw[hd] at tu;have qY:=ζ (aJ.start h);clear h hwk nu hd cG jJ Eb;go_enter func93,ntmps93;go_wp2_with (go_at_call 111;refine tu.out.mono ?_;rintro e1 w1 ⟨rfl,hb1⟩);go_ret;exact⟨rfl,(qY.out.later hb1).post⟩
end
end
section
open Go.Proofs.Tryz
open Go.RowKit Lt
section
variable {c:Wp} {p t:Nat} {W0 W wr:World} {O B:Nat->Prop} {st:TS} {L U Z:Nat} {vp vw:Value}
theorem aJ.back {O':Nat->Prop} {st':TS} {w':World} (h0:W0.heap.size<=W.heap.size/\(∀b,O b->W0.heap.size<=b/\b<W.heap.size)/\∀b,B b->W.heap.size<=b) (h1:az O W wr) (h2:∀b,O' b->O b\/W.heap.size<=b) (h:aW c p t W0 O' wr st' w'):aW c p t W0 O W st' w':=by
 obtain⟨hw,L2,U2,Z2,vp2,vw2,h5⟩:=h;have hx:aJ c p t W0 O W (fun _=>False) st' w':=by
  refine⟨⟨h0.1,h0.2.1,fun b hb=>hb.elim⟩,?_,_,fun b hb=> ?_,fun b hb=>hb.elim,L2,U2,Z2,vp2,vw2,h5⟩
  .refine⟨hw.os.trans h1.os,hw.tape.trans h1.tape,hw.output.trans h1.output,acA h1.size hw.size,fun k hk hn=> ?_⟩
   have hs:=h1.size;exact(hw.block k (by omega) (fun q=>(h2 k q).elim hn fun q=>by omega)).trans (h1.block k hk hn)
  .have hs:=h1.size
   rcases hb.1 with q|q
   .exact h2 b q
   .exact .inr (by omega)
 exact hx.post
theorem aJ.says {f:FuncId} {args:Array Value} {r:Option TS} (h:aJ c p t W0 O W B st wr)
 (hc:∀{O':Nat->Prop} {L U Z:Nat} {vp vw:Value},aS c p t W0 O' st L U Z vp vw wr->Calls prog f args wr (iD c p t W0 O' wr r)):
 Calls prog f args wr (iD c p t W0 O W r):=by
 obtain⟨h0,h1,O',h2,h3,L,U,Z,vp,vw,h4⟩:=h;refine(hc h4).mono fun e w' hp=> ?_
 cases r with
 |none=>
  obtain⟨st',e1,e2⟩:=hp;exact⟨st',e1,aJ.back h0 h1 h2 e2⟩
 |some st'=>exact⟨hp.1,aJ.back h0 h1 h2 hp.2⟩
theorem TP (h:aS c p t W0 O st L U Z vp vw W) {u:Nat} (hu:u<2*c.es.length) {r:Option TS} (hlen:st.stk.length<=8388605) (hwl:st.way.length<=8388607) (ho:Lt.A7 c.env st (u:Int)=some r):
 Calls prog 75 #[.pointer (some ⟨t,0,none⟩),.int .i64 (u:Int)] W (iD c p t W0 O W r):=by
 have dH:=h.wk.val.few;have cG:=nO h.wk.val hu;have hlt:=Cs.bI h.wk.val hu;have hl:=h.wk.vf.lens;obtain⟨k,hk⟩:∃k,u/2=k:=⟨_,rfl⟩;obtain⟨k1,k2⟩:=nJ hk;have hkm:k<c.es.length:=by omega
 have hback:back? c.env (u:Int)=some (decide (Df.at_ c.s.par (Cs.to c.es u)≠(u:Int))):=by
  unfold back?;rw[cG.2];dsimp only[Option.bind_some];rw[at_at (l:=c.env.par) (v:=Cs.to c.es u) (by show _<c.s.par.length;rw[hl.1];exact hlt.2)];rfl
 unfold Lt.A7 at ho;rw[hback,k1] at ho;have x0:=h.cells.1;have zk:=ζ (Cv h.now hu);have qY:=ζ (aJ.start h);cases hd:decide (Df.at_ c.s.par (Cs.to c.es u)≠(u:Int)) with
 |false=>
  rw[hd] at ho zk;dsimp only at ho;rw[cG.2] at ho;cases ho;have pF:Hid (∀V,Below W.heap.size W V->Calls prog 76 #[.pointer (some ⟨p,0,none⟩),.int .i64 (u:Int)] V fun e w'=>e= .returned (.int .i64 (Cs.to c.es u:Int))/\w'=V):=fun V hV=>Ct (h.later hV).now hu
  have HX:Hid (∀V,Below W.heap.size W V->V.cell? ⟨t,0,none⟩=some (.pointer (some ⟨p,0,none⟩))):=fun V hV=>(h.later hV).cells.1
  have FA:Hid (∀V,Below W.heap.size W V->Calls prog 72 #[.pointer (some ⟨t,0,none⟩),.int .i64 (Cs.to c.es u:Int)] V fun e w'=>e= .returned (.tuple #[])/\aW c p t W0 O W (enter st (Cs.to c.es u:Int)) w'):=fun V hV=>(AA (h.later hV) _ hwl).mono fun e w' hp=>⟨hp.1,aW.pre h.aZ.size hV hp.2⟩
  clear h hback hd cG hlt hl;go_enter func75,ntmps75;go_wp2_with (go_at_call 54;refine zk.out.mono ?_;rintro e1 w1 ⟨rfl,hb1⟩;have aY:=ζ hb1;have y0:=HX.out w1 hb1;clear hb1 x0);go_at_call 76;refine(pF.out _ aY.out).mono ?_;rintro e1 w2 ⟨rfl,rfl⟩;go_wp2_with (go_at_call 72;refine(FA.out _ aY.out).mono ?_;rintro e1 w3 ⟨rfl,hp⟩;have HP:=ζ hp;clear hp);go_ret;exact⟨rfl,HP.out⟩
 |true=>
  rw[hd] at ho zk;dsimp only at ho;cases kQ:fE st.lowest (k:Int) (k:Int) with
  |none=>rw[kQ] at ho;cases ho
  |some l2=>
   rw[kQ] at ho;dsimp only at ho;obtain⟨kb,hkb,hkl,rfl⟩:=lR kQ;obtain rfl:kb=k:=by omega
   have HO:=ζ ho;have HX:Hid (∀V,Below W.heap.size W V->V.cell? ⟨t,5,none⟩=some (.slice (some ⟨Z,0,none⟩) c.es.length c.es.length)/\(∃q,V.cell? ⟨Z,kb,none⟩=some (.int .i64 q))/\V.frozen? ⟨Z,kb,none⟩=false/\aJ c p t W0 O W (fun _=>False) { st with lowest:=st.lowest.set kb (kb:Int) } (V.setCell ⟨Z,kb,none⟩ (.int .i64 (kb:Int)))):=fun V hV=>by
    have hT:=h.later hV;refine⟨hT.cells.2.2.2.2.2.1,⟨_,p5 hT.lowest hkl⟩,hT.lowest.free kb,?_⟩;obtain⟨k0,-,-,-⟩:=qY.out;refine⟨k0,?_,O,fun b hb=> .inl hb,fun b hb=>hb.elim,L,U,Z,vp,vw,hT.wO kb kb⟩;exact((az.refl O W).later hV).setCell h.oZ _
   have v0:(0:Int)<=(kb:Int):=by omega
   have v1:(kb:Int)<(c.es.length:Int):=by omega
   have v2:(kb:Int)<=4194304:=by omega
   clear h hback hd cG hlt hl kQ hkb hkl ho;go_enter func75,ntmps75;go_wp2_with (go_at_call 54;refine zk.out.mono ?_;rintro e1 w1 ⟨rfl,hb1⟩;have aY:=ζ hb1;obtain⟨z1,⟨zq,z2⟩,z3,zT⟩:=HX.out w1 hb1;have HZT:=ζ zT;clear hb1 x0 zT);generalize hV:w1.setCell ⟨Z,kb,none⟩ (.int .i64 (kb:Int))=V at*;clear z1 z2 z3 hV;go_at_call 95;refine(nM V).mono ?_;rintro e1 w2 ⟨rfl,hb2⟩;have gJ:=ζ (HZT.out.later hb2);clear hb2;go_wp2_with fail;have Fy:=ζ (aJ.calls gJ.out (fun b hb=>hb.elim) (f:=94) (args:= #[.pointer (some ⟨t,0,none⟩),gK (aP,((kb:Int),(kb:Int)))]) (R:=fun e=>e= .returned (.tuple #[])) (st':={ st with lowest:=st.lowest.set kb (kb:Int),stk:=(aP,((kb:Int),(kb:Int)))::st.stk }) (fun hT=>wL hT (aP,((kb:Int),(kb:Int))) (by dsimp only;omega)));go_at_call 94;refine Fy.out.mono ?_;rintro e1 w3 ⟨rfl,je,-⟩;have XK:=ζ (je.says (f:=93) (args:= #[.pointer (some ⟨t,0,none⟩),.int .i64 (u:Int)]) (r:=r) (fun hT=>xR hT hu (by dsimp only[List.length_cons];omega) hwl HO.out));clear je;go_wp2_with fail;go_at_call 93;refine XK.out.mono ?_;intro e1 w4 hp;have HP:=ζ hp;clear hp XK HO;cases r with
   |none=>
    obtain⟨st',rfl,hp⟩:=HP.out;have oK:=ζ hp;clear hp HP;go_wp2_with fail;go_ret;exact⟨st',rfl,oK.out⟩
   |some st'=>
    obtain⟨rfl,hp⟩:=HP.out;have oK:=ζ hp;clear hp HP;go_wp2_with fail;go_ret;exact⟨rfl,oK.out⟩
end
end
section
open Go.Proofs.Tryz
open Go.RowKit Lt
theorem wK {lw:List Int} {h:Int}:∀{ps:List Pr} {turn:List Int} {qs:List Pr} {bz:List Int},jD lw h ps turn=some (qs,bz)->qs.length<=ps.length
 |[],turn,qs,bz,e=>by
  cases e;simp
 |p::ps,turn,qs,bz,e=>by
  unfold jD at e;by_cases e1:p=dN
  .rw[if_pos e1] at e;cases e
  .rw[if_neg e1] at e
   cases e2:least lw p with
   |none=>rw[e2] at e;cases e
   |some a=>
    rw[e2] at e;dsimp only at e;by_cases e3:a=h
    .rw[if_pos e3] at e
     by_cases e4:p.1=aP
     .rw[if_pos e4] at e
      have:=wK e;rw[abS];omega
     .rw[if_neg e4] at e
      cases e5:fE turn p.1.2 (-1) with
      |none=>rw[e5] at e;cases e
      |some t2=>
       rw[e5] at e;have:=wK e;rw[abS];omega
    .rw[if_neg e3] at e
     cases e;simp
theorem Rf {lw:List Int} {h:Int} {st st':TS} (e:trim lw h st=some st'):st'.stk.length<=st.stk.length/\st'.way=st.way:=by
 unfold trim at e;cases e1:jD lw h st.stk st.turn with
 |none=>rw[e1] at e;cases e
 |some q=>
  obtain⟨qs,t1⟩:=q;have hl:=wK e1;rw[e1] at e;cases qs with
  |nil=>
   cases e;exact⟨by simp,rfl⟩
  |cons p ps=>
   dsimp only at e
   split at e
   .cases e
   .split at e
    .cases e
    .split at e
     .cases e
     .cases e
      exact⟨by simpa using hl,rfl⟩
section
variable {c:Wp} {p t:Nat} {W0 W wr:World} {O B:Nat->Prop} {st:TS} {L U Z:Nat} {vp vw:Value}
theorem JO (h:aS c p t W0 O st L U Z vp vw W) {r:Option TS} (hlen:st.stk.length<=8388605) (hwl:st.way.length<=8388607) (ho:Lt.leave c.env st=some r):
 Calls prog 73 #[.pointer (some ⟨t,0,none⟩)] W (iD c p t W0 O W r):=by
 unfold Lt.leave at ho;cases hs:st.way with
 |nil=>rw[hs] at ho;cases ho
 |cons v ws=>
  rw[hs] at ho;dsimp only at ho;cases hp:bF c.env.par v.1 with
  |none=>rw[hp] at ho;cases ho
  |some x=>
   rw[hp] at ho;dsimp only at ho;obtain⟨i,hi,hil,hix⟩:=iC hp;have hl:=h.wk.vf.lens;have hin:i<c.n:=by rw[<-hl.1];exact hil
   have hx:Df.at_ c.s.par i=x:=by
    have:c.s.par[i]? =some x:=hix;unfold Df.at_;simp[this]
   have dH:=h.wk.val.few;obtain⟨bp,op,ep,BN⟩:=h.now.par hin;have z2:=h.now.c2;rw[ep] at z2;have z3:=BN W (aae _ _) i hin;rw[hx] at z3;obtain⟨z0,-,-,-,x3,-,xf⟩:=h.cells;have bD:=h.way;rw[hs,ac4] at bD;obtain⟨g,cap,rfl,hc,hcap,-,hown⟩:=bD.snoc qO;rw[acD] at x3 hcap hown hc;have d0:=hc 0 (.int .i64 v.1) rfl;have BJ:=h.way.lt (b:=g) rfl;have bX:Hid (aJ c p t W0 O W (fun _=>False) { st with way:=ws } ((W.setCell ⟨t,4,none⟩ (.slice (some ⟨g,0,none⟩) ws.length cap)).drew)):=by
    refine aJ.drew ?_;refine⟨⟨h.aZ.size,fun b hb=>⟨h.oB b hb,h.oX b hb⟩,fun _ hb=>hb.elim⟩,(az.refl O W).setCell h.oT _,_,fun b hb=>hb.1,fun _ hb=>hb.elim,L,U,Z,vp,_,(h.aar (W1:=W) h.aZ (fun b _ _=>rfl) (aad _) hown (.inl rfl)).2.2⟩
   obtain⟨k,hk⟩:∃k,ws.length=k:=⟨_,rfl⟩;rw[hk] at x3 hcap bX d0;rw[hs,abS,hk] at hwl;rw[hi] at d0;rw[ado] at d0;have e1:((k:Int)+1)-1=(k:Int):=by omega
   have e2:(0:Int)<=(k:Int):=by omega
   have e3:(k:Int)<=(cap:Int):=by omega
   have e4:(k:Int)<(k:Int)+1:=by omega
   have t0:(0:Int)<=(i:Int):=by omega
   have t1:(i:Int)<(c.n:Int):=by omega
   by_cases hx1:x= -1
   .rw[if_pos hx1] at ho
    cases ho;subst hx1;clear h bD hs hp hc hk hown hl hix BN ep hi;go_enter func73,ntmps73;go_wp2_with fail;go_big_region;go_wp2_with fail;go_ret;exact⟨rfl,bX.out.post⟩
   .rw[if_neg hx1] at ho
    obtain⟨u,hu,rfl⟩:∃u:Nat,u<2*c.es.length/\x=(u:Int):=by
     rcases h.wk.vf.hang i hin with ⟨q,-⟩|⟨w,hw,q,-⟩
     .exact absurd (hx.symm.trans q) hx1
     .exact⟨w,hw,hx.symm.trans q⟩
    have cG:=nO h.wk.val hu;have hlt:=Cs.bI h.wk.val hu;have Eb:Bf c.env (u:Int)=some (Df.at_ c.s.ay (Cs.fr c.es u)):=by
     unfold Bf;rw[cG.1];exact at_at (by show _<c.s.ay.length;rw[hl.2.1];exact hlt.1)
    rw[Eb] at ho;dsimp only at ho;cases BA:trim c.env.lw (Df.at_ c.s.ay (Cs.fr c.es u)) { st with way:=ws } with
    |none=>rw[BA] at ho;cases ho
    |some fX=>
     rw[BA] at ho;dsimp only at ho;obtain⟨y,hy⟩:∃y,Df.at_ c.s.ay (Cs.fr c.es u)=y:=⟨_,rfl⟩;rw[hy] at BA;have DR:=Rf BA;dsimp only at DR;have Mn:Hid (fX.stk.length<=8388606/\fX.way.length<=8388607):=by
      refine⟨?_,?_⟩
      .omega
      .rw[DR.2,hk]
       omega
     have Mx:Hid (∀{V:World} {O':Nat->Prop} {L U Z:Nat} {vp vw:Value},aS c p t W0 O' { st with way:=ws } L U Z vp vw V->Calls prog 92 #[.pointer (some ⟨p,0,none⟩),.int .i64 (u:Int)] V fun e w'=>e= .returned (.int .i64 y)/\Below V.heap.size V w'):=fun hV=>by rw[<-hy];exact xO hV.now hu
     have ZR:=ζ BA;have HO:=ζ ho;have e5:((u:Int)== -1)=false:=by simp only[beq_eq_false_iff_ne,ne_eq];omega
     have HT0:Hid (∀V,aJ c p t W0 O W (fun _=>False) { st with way:=ws } V->V.cell? ⟨t,0,none⟩=some (.pointer (some ⟨p,0,none⟩))):=fun V hV=>by
      obtain⟨-,-,O',-,-,L,U,Z,vp,vw,h4⟩:=hV;exact h4.cells.1
     have z5:=HT0.out _ bX.out;clear h bD hs hp hc hk hown hl hix BN ep hi BA ho DR Eb cG hlt hx hy hx1;go_enter func73,ntmps73;go_wp2_with fail;go_big_region;go_wp2_with fail;generalize (W.setCell ⟨t,4,none⟩ (.slice (some ⟨g,0,none⟩) k cap)).drew=V at*;clear z0 z2 z3 x3 xf d0;have ajB:=ζ (aJ.reads bX.out (fun b hb=>hb.elim) (f:=92) (args:= #[.pointer (some ⟨p,0,none⟩),.int .i64 (u:Int)]) (R:=fun e=>e= .returned (.int .i64 y)) (fun hT=>Mx.out hT));go_at_call 92;refine ajB.out.mono ?_;rintro e1 w2 ⟨rfl,jf,-⟩;have aiA:=ζ (aJ.calls jf (fun b hb=>hb.elim) (f:=91) (args:= #[.pointer (some ⟨t,0,none⟩),.int .i64 y]) (R:=fun e=>e= .returned (.tuple #[])) (st':=fX) (fun hT=>MR hT (by dsimp only;omega) ZR.out));clear jf;go_wp2_with fail;go_at_call 91;refine aiA.out.mono ?_;rintro e1 w3 ⟨rfl,je,-⟩;have XK:=ζ (je.says (f:=93) (args:= #[.pointer (some ⟨t,0,none⟩),.int .i64 (u:Int)]) (r:=r) (fun hT=>xR hT hu Mn.out.1 Mn.out.2 HO.out));clear je;go_wp2_with fail;go_at_call 93;refine XK.out.mono ?_;intro e1 w4 hp;have HP:=ζ hp;clear hp XK HO;cases r with
     |none=>
      obtain⟨st',rfl,hp⟩:=HP.out;have oK:=ζ hp;clear hp HP;go_wp2_with fail;go_ret;exact⟨st',rfl,oK.out⟩
     |some st'=>
      obtain⟨rfl,hp⟩:=HP.out;have oK:=ζ hp;clear hp HP;go_wp2_with fail;go_ret;exact⟨rfl,oK.out⟩
end
end
section
open Go.RowKit Lt
section
variable {α:Type} {T:TypeId} {k:Nat} {fl:α->List Value} {w:World} {B g c:Nat} {l:List α}
theorem dZ.last (hk:∀x,(fl x).length=k) {x x':α} {j:Nat} {u:Value} (h:dZ T k fl w B (.slice (some ⟨g,0,none⟩) (l.length+1) c) (l++[x])) (hx:fl x'=(fl x).set j u):dZ T k fl (w.setCell ⟨g,l.length*k+j,none⟩ u) B (.slice (some ⟨g,0,none⟩) (l.length+1) c) (l++[x']):=by
 unfold dZ at h ⊢;rw[abZ,adb,aeO] at h ⊢;have h1:=(World.ownsRow.stored h (l.length*k+j) u).1;have hfl:=Ab hk l;rw[List.set_append_right _ _ (by omega),hfl,Nat.add_sub_cancel_left] at h1;simp only[ae9,List.flatMap_nil,acH] at h1 ⊢;rw[hx];exact h1
end
section
variable {c:Wp} {p t:Nat} {W0 W wr:World} {O B:Nat->Prop} {st:TS} {L U Z:Nat} {vp vw:Value}
theorem aS.Yu (h:aS c p t W0 O st L U Z vp vw W) {v v':kC} {ws:List kC} {j:Nat} {u:Value} (hs:st.way=v::ws) {g cap:Nat} (hg:vw= .slice (some ⟨g,0,none⟩) (ws.length+1) cap) (hx:xq v'=(xq v).set j u):aS c p t W0 O { st with way:=v'::ws } L U Z vp vw (W.setCell ⟨g,ws.length*6+j,none⟩ u):=by
 have hgb:vw.ownBlock=some g:=by rw[hg];rfl
 have hne:=h.n3 g hgb;have hk:∀b,b≠g->(W.setCell ⟨g,ws.length*6+j,none⟩ u).heap[b]? =W.heap[b]? :=fun b hb=>heap_setCell_other W ⟨g,ws.length*6+j,none⟩ b _ hb
 refine⟨h.wk,h.aZ.setCell (p:=⟨g,ws.length*6+j,none⟩) (h.oB g (h.oW g hgb)) _,(hk t (aao hne.1)).trans h.blk,(hk L (aao hne.2.1)).trans h.like,(hk U (aao hne.2.2.1)).trans h.turn,(hk Z (aao hne.2.2.2)).trans h.lowest,h.ll,h.lu,h.lz,?_,?_,h.oT,h.oL,h.oU,h.oZ,h.oP,h.oW,h.oB,fun b hb=>by simpa using h.oX b hb,h.n1,h.n2,h.n3,h.n4⟩
 .exact h.iX.same fun b hb _=>hk b fun e=>h.n4 b hb (by rw[e];exact hgb)
 .have h1:=h.way
  rw[hs,ac4,hg] at h1;have hlr:ws.reverse.length=ws.length:=acD;rw[hg];show dZ 131 6 xq _ _ _ (v'::ws).reverse;rw[ac4];rw[<-hlr] at h1 ⊢;exact dZ.last qO h1 hx
end
namespace Lt
open Pl
section
variable {n m:Nat} {T:DF n m} {E:Env} {oe:Nat->List Nat} {hf:Nat->Int} {lowest:List Int} {S:(Nat->Bool)->Prop}
theorem QG:∀{s:List cO},(∀p∈s,¬(p.1=[]/\p.2=[]))->s.length<=(cF s).length
 |[],_=>ab6 _
 |p::s,h=>by
  have h1:=QG (s:=s) fun q hq=>h q (aak _ hq)
  have h2:=h p aai;rw[aB,abZ,abZ,abS];have h3:0<p.1.length+p.2.length:=by
   obtain⟨a,b⟩:=p;cases a with
   |cons _ _=>simp;omega
   |nil=>
    cases b with
    |cons _ _=>simp
    |nil=>exact absurd ⟨rfl,rfl⟩ h2
  omega
theorem B5.len:∀{ls:List Lv} {ws:List kC} {v:Nat},B5 T E oe lowest S ls ws v->ws.length=ls.length/\∀l∈ls,l.v<n
 |[],[],_,_=>⟨rfl,fun l hl=>by simp at hl⟩
 |l::ls,w::ws,v,h=>by
  obtain⟨⟨c,k,h1,h2,h3,h4,h5⟩,h6,h7⟩:=h;have h8:=B5.len h7;refine⟨by rw[abS,abS,h8.1],fun l' hl=> ?_⟩;rcases aaj.1 hl with q|q
  .rw[q];exact h5.lt
  .exact h8.2 l' q
 |[],_::_,_,h=>h.elim
 |_::_,[],_,h=>h.elim
theorem Inv.fits (hE:dU T E oe hf) {st:TS} {fin:Nat->Prop} {G:List Nat} {ls:List Lv} (h:Inv T E oe st fin G ls):st.stk.length<=m/\st.way.length=ls.length/\ls.length<=n:=by
 have hw:=h.way;have key:(∀q∈flat ls,¬(q.1=[]/\q.2=[]))/\st.way.length=ls.length/\∀l∈ls,l.v<n:=by
  cases ls with
  |nil=>
   cases hs:st.way with
   |nil=>exact⟨fun q hq=>by simp[flat] at hq,rfl,fun l hl=>by simp at hl⟩
   |cons _ _=>rw[hs] at hw;exact hw.elim
  |cons l ls=>
   cases hs:st.way with
   |nil=>rw[hs] at hw;exact hw.elim
   |cons w ws=>
    rw[hs] at hw;obtain⟨_,_,h3,h4⟩:=hw;have h5:=h4.low hE h3.lt;have h6:=h4.len;refine⟨fun q hq=> ?_,by rw[abS,abS,h6.1],fun l' hl=> ?_⟩
    .rw[bR] at hq
     rcases aam.1 hq with k1|k1
     .exact h3.wR.ne q k1
     .exact h5.2.1 q k1
    .rcases aaj.1 hl with q|q
     .rw[q];exact h3.lt
     .exact h6.2 l' q
 refine⟨?_,key.2.1,?_⟩
 .rw[h.stk,aco]
  have h1:=QG key.1;have h2:=jv h.lk.nd fun x hx=>h.lk.sm x (h.lk.sn x hx)
  omega
 .have:=jv h.ln fun x hx=>by
   obtain⟨l,hl,rfl⟩:=abT.1 hx;exact key.2.2 l hl
  rwa[aco] at this
end
end Lt
end
section
open Go.RowKit Lt Pl
noncomputable def Wp.oe (c:Wp) (v:Nat):List Nat:=((Lo.bY c.n c.es c.s c.es.length)[v]?.getD []).map fun x=>x.toNat/2
section
variable {c:Wp} (hv:Si.Val c.n c.es) (h:Df.VF c.n c.es c.s)
include hv h
omit hv h in
theorem Wp.xp {e:Nat} (he:e<c.es.length):g c.lw e=Lo.low c.es c.s e:=by
 unfold g;rw[show c.lw[e]? =some (Lo.low c.es c.s e) from iR he];rfl
theorem Wp.Nv {v:Nat} {e:Nat}:e∈c.oe v↔e<c.es.length/\Lo.fr c.es c.s e=v:=by
 unfold Wp.oe;cases hl:(Lo.bY c.n c.es c.s c.es.length)[v]? with
 |none=>
  rw[aeP,Lo.fu] at hl;constructor
  .intro q;simp at q
  .rintro⟨q1,q2⟩
   have:=(Lo.ct hv h q1).1;omega
 |some l=>
  have hm:=Lo.nZ hv h c.es.length (aad _) v l hl;rw[adH,abT];constructor
  .rintro⟨x,hx,rfl⟩
   obtain⟨b,hb,hf,rfl⟩:=(hm x).1 hx;rw[(Lo.fH h hb).1];exact⟨hb,hf⟩
  .rintro⟨q1,q2⟩
   exact⟨Df.at_ c.s.aT e,(hm _).2 ⟨e,q1,q2,rfl⟩,(Lo.fH h q1).1⟩
theorem Wp.Uj {v:Nat} {l:List Int} (hl:(Lo.bY c.n c.es c.s c.es.length)[v]? =some l):(c.oe v).map (fun e=>Df.at_ c.s.aT e)=l:=by
 have hm:=Lo.nZ hv h c.es.length (aad _) v l hl;unfold Wp.oe;rw[hl,adH,List.map_map]
 conv=>rhs;rw[<-List.map_id l]
 refine adE fun x hx=> ?_
 obtain⟨b,hb,hf,rfl⟩:=(hm x).1 hx;show Df.at_ c.s.aT ((Df.at_ c.s.aT b).toNat/2)=_;rw[(Lo.fH h hb).1];rfl
theorem Wp.F0 (v:Nat):List.Pairwise (fun e f=>Lo.nest c.es c.s e<=Lo.nest c.es c.s f/\e≠f) (c.oe v):=by
 unfold Wp.oe;cases hl:(Lo.bY c.n c.es c.s c.es.length)[v]? with
 |none=>simp
 |some l=>
  have hm:=Lo.nZ hv h c.es.length (aad _) v l hl;have hr:=Lo.rF hv h c.es.length (aad _) l (aah hl);rw[adH,ac8];refine ada ?_ hr;intro x y hx hy hxy;obtain⟨a,ha,_,rfl⟩:=(hm x).1 hx;obtain⟨b,hb,_,rfl⟩:=(hm y).1 hy;unfold Lo.Jo at hxy;rw[(Lo.fH h ha).1,(Lo.fH h hb).1] at hxy ⊢;refine⟨?_,fun e=> ?_⟩
  .rcases hxy with q|q
   .omega
   .omega
  .subst e
   rcases hxy with q|q
   .omega
   .exact absurd q.2 (by omega)
theorem Wp.afS:lI (Lr.df hv h) c.lw:=by
 refine⟨gm _ _,fun e he=> ?_,fun e b he hb=> ?_,fun e he hl=> ?_⟩
 .rw[Wp.xp he]
  exact(Lo.least_le _ _).1
 .rw[Wp.xp he]
  have:=(Lr.x7 hv h he).1 hb;exact(Lo.least_le _ _).2 _ (abT.2 ⟨b,this,rfl⟩)
 .rw[Wp.xp he] at hl ⊢
  rcases Lo.Kq (es:=c.es) (s:=c.s) e with q|q
  .rw[q] at hl
   exact absurd hl (Int.lt_irrefl _)
  .obtain⟨b,hb,hb2⟩:=abT.1 q
   exact⟨b,(Lr.x7 hv h he).2 hb,hb2⟩
theorem Wp.zM {e f:Nat} (he:e<c.es.length) (hf:f<c.es.length) (hn:Lo.nest c.es c.s e<=Lo.nest c.es c.s f):Xq (Lr.df hv h) c.lw e f:=by
 unfold Xq;rw[Wp.xp he,Wp.xp hf];have hle:Lo.low c.es c.s e<=Lo.low c.es c.s f:=by
  unfold Lo.nest at hn
  split at hn<;>split at hn<;>omega
 refine⟨hle,fun heq=> ?_⟩;rintro⟨x,hx,hlx⟩;have hx':=(Lr.x7 hv h he).1 hx;obtain⟨xm,xt,xh⟩:=Lo.tI hv h he hx';rw[Wp.xp xm,Lo.vr hv h xm xt] at hlx;have h2:Lo.cK c.es c.s e<=Lo.ht c.es c.s x:=(Lo.least_le _ _).2 _ (acK.2 ⟨abT.2 ⟨x,hx',rfl⟩,by simpa using hlx⟩);have h3:Lo.low c.es c.s e<Lo.cK c.es c.s e:=by
  rcases Lo.qE (es:=c.es) (s:=c.s) e with q|q
  .rw[q];omega
  .exact q.2
 have h4:Lo.low c.es c.s f<Lo.cK c.es c.s f/\Lo.cK c.es c.s f<Lo.hf c.es c.s f:=by
  unfold Lo.nest at hn;rw[if_pos ⟨h3,by omega⟩] at hn
  split at hn
  .assumption
  .omega
 rcases Lo.qE (es:=c.es) (s:=c.s) f with q|⟨q,q2⟩
 .rw[q] at h4
  exact absurd h4.2 (Int.lt_irrefl _)
 .obtain⟨b,hb,hb2⟩:=abT.1 q
  obtain⟨bm,bt,bh⟩:=Lo.tI hv h hf hb;refine⟨b,(Lr.x7 hv h hf).2 hb,?_⟩;rw[Wp.xp bm,Lo.vr hv h bm bt,hb2];exact q2
theorem Wp.WL:dU (Lr.df hv h) c.env c.oe (fun e=>Df.at_ c.s.aT e):=by
 have hl:=h.lens;refine⟨Wp.afS hv h,fun e he=>(Lo.fH h he).2.1,fun e he=> ?_,fun e he=> ?_,fun e he=> ?_,fun v eM=> ?_,fun v e=>Wp.Nv hv h,fun v=> ?_,fun v=> ?_,fun v eM=> ?_,fun v eM=> ?_⟩
 .obtain⟨h1,-,-,h4⟩:=Lo.fQ h he
  show(Df.at_ c.s.aT e).tdiv 2=_;rw[h1];exact(nJ h4).1
 .obtain⟨h1,-,h3,h4⟩:=Lo.fQ h he
  show Rj c.env (Df.at_ c.s.aT e)=_;rw[h1];exact(nO hv h3).2
 .obtain⟨h1,-,h3,h4⟩:=Lo.fQ h he
  show OJ c.env (Df.at_ c.s.aT e)=_;rw[h1];exact(nO hv h3).1
 .obtain⟨l,hol⟩:∃l,(Lo.bY c.n c.es c.s c.es.length)[v]? =some l:=⟨_,aac (by rw[Lo.fu];exact eM)⟩
  rw[Wp.Uj hv h hol];exact hol
 .exact(Wp.F0 hv h v).imp fun q=>q.2
 .refine ada ?_ (Wp.F0 hv h v)
  intro e f he hf q;exact Wp.zM hv h ((Wp.Nv hv h).1 he).1 ((Wp.Nv hv h).1 hf).1 q.1
 .exact at_at (by show _<c.s.ay.length;rw[hl.2.1];exact eM)
 .have hp:bF c.env.par (v:Int)=some (Df.at_ c.s.par v):=at_at (by show _<c.s.par.length;rw[hl.1];exact eM)
  rw[hp];rcases h.hang v eM with ⟨q,-⟩|⟨u,hu,q1,q2,q3,-⟩
  .refine .inr ⟨fun a am ta ga=> ?_,by rw[q]⟩
   have CN:Lo.tree c.es c.s a=true:=ta;have OG:Lo.fB c.es c.s a=v:=ga;unfold Lo.tree at CN;rw[OG,decide_eq_true_iff,q] at CN;have:=(Lo.fH h am).2.1;omega
  .have am:u/2<c.es.length:=by omega
   have ho:Lo.oh c.s (u/2)=u:=by
    unfold Lo.oh;rw[q3];simp
   have hg:Lo.fB c.es c.s (u/2)=v:=by
    unfold Lo.fB;rw[ho];exact q2
   refine .inl ⟨u/2,am,?_,hg,by rw[q1,q3]⟩;show Lo.tree c.es c.s (u/2)=true;unfold Lo.tree;rw[hg,q1,q3];simp
end
end
end Go.Proofs.YtbhdibflpjhpaaaGreat
