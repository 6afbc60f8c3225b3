import Derived.Test.YtdbjpbjocmcpkaaGreatDoorMg33
import Derived.Test.YtdbjpbjocmcpkaaGreatDoorMg10
set_option maxHeartbeats 16000000
set_option maxRecDepth 100000
namespace Go.Proofs.YtdbjpbjocmcpkaaGreatDoor
section
open Go.Proofs.Tryz
open Go.RowKit Go.Sort
namespace Co
def sumTo (f:Nat->Nat):Nat->Nat
 |0=>0
 |k+1=>sumTo f k+f k
theorem ox {f g:Nat->Nat}:∀k,(∀i,i<k->f i=g i)->sumTo f k=sumTo g k
 |0,_=>rfl
 |k+1,h=>by unfold sumTo;rw[ox k (fun i hi=>h i (by omega)),h k (by omega)]
theorem sumTo_upd {f:Nat->Nat} {x y:Nat} (hy:y<f x):∀k,x<k->sumTo (upd f x y) k<sumTo f k
 |0,h=>by omega
 |k+1,h=>by
  unfold sumTo;by_cases e:x=k
  .subst e
   rw[upd_same,ox (f:=upd f x y) (g:=f) x (fun i hi=>aV _ (by omega))];omega
  .have:=sumTo_upd hy k (by omega)
   rw[aV _ (by omega)];omega
structure Down (n:Nat) (es:List (Int×Int)) (F:Nat->Nat):Prop where
 le:∀x,x<n->F x<=x
 sub:∀f:Nat->Nat,iW n es f->∀x,x<n->f (F x)=f x
theorem Down.id (n:Nat) (es:List (Int×Int)):Down n es (fun x=>x):=⟨fun _ _=>aad _,fun _ _ _ _=>rfl⟩
theorem Down.step {n:Nat} {es:List (Int×Int)} {F:Nat->Nat} (h:Down n es F) {u v:Nat} (hu:u<n) (hv:v<n) (hm:∀f:Nat->Nat,iW n es f->f u=f v) (hlt:F v<F u):Down n es (upd F u (F v)):=by
 refine⟨fun x hx=> ?_,fun f hf x hx=> ?_⟩
 .by_cases e:x=u
  .subst e;rw[upd_same];have:=h.le x hx;omega
  .rw[aV _ e];exact h.le x hx
 .by_cases e:x=u
  .subst e;rw[upd_same,h.sub f hf v hv];exact(hm f hf).symm
  .rw[aV _ e];exact h.sub f hf x hx
theorem Down.done {n:Nat} {es:List (Int×Int)} {F:Nat->Nat} (h:Down n es F) (hm:iW n es F) {m:Nat->Nat} (g:Gen n es m) {x:Nat} (hx:x<n):F x=m x:=by
 have e1:=g.least F hm x hx;have e2:=h.sub m g.meets x hx;have l1:=h.le x hx;have l2:=g.norm.le x hx;have l3:=h.le (m x) (by omega);have l4:=g.norm.le (F x) (by omega);omega
end Co
def cellNat (w:World) (g i:Nat):Nat:=
 match w.cell? ⟨g,i,none⟩ with
 |some (.int _ z)=>z.toNat
 |_=>0
theorem Kl {w:World} {g n:Nat} {F:Nat->Nat} (h:aC w g (Co.ints n F)) {i:Nat} (hi:i<n):cellNat w g i=F i:=by
 unfold cellNat;rw[h.cell (Co.ints_at hi)];simp
theorem sum_eq {w:World} {g n:Nat} {F:Nat->Nat} (h:aC w g (Co.ints n F)):Co.sumTo (cellNat w g) n=Co.sumTo F n:=Co.ox n fun _ hi=>Kl h hi
def Ak:Value->Nat
 | .bool true=>1
 |_=>0
theorem IK {n:Nat} {es:List (Int×Int)} {k u v:Nat} (hq:es[k]? =some ((u:Int),(v:Int))) (hu:u<n) (hv:v<n) {f:Nat->Nat} (hf:Co.iW n es f):f u=f v:=by
 have:=hf _ (aai hq) ⟨by dsimp only;omega,by dsimp only;omega⟩ ⟨by dsimp only;omega,by dsimp only;omega⟩;simpa using this
structure Pass (n:Nat) (es:List (Int×Int)) (F0 F:Nat->Nat) (i:Nat) (ch:Bool):Prop where
 down:Co.Down n es F
 less:Co.sumTo F n<=Co.sumTo F0 n
 yes:ch=true->Co.sumTo F n<Co.sumTo F0 n
 no:ch=false->Co.iW n (es.take i) F
theorem Co.iW.snoc {n:Nat} {es:List (Int×Int)} {F:Nat->Nat} (h:Co.iW n es F) {u v:Nat} (e:F u=F v):Co.iW n (es++[((u:Int),(v:Int))]) F:=by
 intro j hj h1 h2;rcases abG.1 hj with hj|hj
 .exact h j hj h1 h2
 .obtain rfl:=abg.1 hj
  simpa using e
theorem QI (n:Int) (ao:Option Addr) (cap:Nat) (es:List (Int×Int)) (w:World) (he:ah w ao es) (hl:es.length<=4611686018427387904):
 Calls prog 89 #[az n ao es.length cap] w (GU n es w):=by
 obtain⟨i0,hi,hz0,hz1,hz2⟩:=info_parts Tryz.b7;have HE:=ζ he;have jC:=fun W (hb:Below w.heap.size w W)=>eW n ao cap es W (he.later hb) hl
 unfold az at jC ⊢;have cS:=ζ jC;clear he jC;have dJ:Below w.heap.size w (w.alloc (.cells #[.int .i64 n,.slice ao es.length cap] 24)):=(aae _ _).alloc (aad _) _;have bR:=ζ dJ;clear dJ;cases hv:Si.valid n es with
 |false=>
  rw[hv] at cS;have HV:=ζ hv;clear hv;go_enter func89,ntmps89;go_wp2_with (go_at_call 25;refine(cS.out _ bR.out).mono ?_;rintro e w' ⟨rfl,hb⟩;refine aaj ?_);refine ζ ?_;have HB:=ζ (bR.out.trans (hb.mono bR.out.size));clear hb;go_wp2
  go_ret3
  exact⟨.inr ⟨HV.out,rfl⟩,HB.out⟩
 |true=>
  rw[hv] at cS;have hval:=Si.aK.1 hv;have bQ:=hval.few;have hlo:=hval.lo;have hhi:=hval.hi;obtain⟨m,rfl⟩:∃m:Nat,n=(m:Int):=⟨n.toNat,by omega⟩;have bY:=ζ hval;clear hval hv;have XG:∀W,Calls prog 136 #[.int .i64 (m:Int)] W fun e w'=>∃v,e= .returned (.tuple #[v,.int .i64 0])/\aj w' W.heap.size v (Co.ints m (fun x=>x))/\Below W.heap.size W w':=fun W=>(OD m W).mono (by
   rintro e w' ⟨⟨j,v,h1,_,rfl,h4⟩|⟨h1,_⟩,hb⟩
   .obtain rfl:m=j:=by omega
    exact⟨v,rfl,h4,hb⟩
   .omega)
  have HRN:=ζ XG;clear XG;go_enter func89,ntmps89;go_wp2_with (go_at_call 25;refine(cS.out _ bR.out).mono ?_;rintro e w1 ⟨rfl,hb⟩;refine aaj ?_);refine ζ ?_;have hG:w1.heap[w.heap.size]? =some (.cells #[.int .i64 m,.slice ao es.length cap] 24 (0,0)):=(hb.block _ (by simp)).trans (heap_alloc_new w _);have aI:=ζ (bR.out.trans (hb.mono bR.out.size));have HG:=ζ hG;have sG:=lt_of_block hG;obtain⟨g0,g1,-⟩:=af hG;clear hb hG cS;go_wp2_with (go_at_call 136;refine(HRN.out _).mono ?_;rintro e w2 ⟨nv,rfl,ho2,hb2⟩;obtain⟨no,nc,UI,-,-⟩:=ho2.form;rw[Co.aZ] at UI;have kQ:=ζ ho2;have aB:=ζ hb2;clear ho2 hb2;subst UI;refine aaj ?_);refine ζ ?_;clear HRN g0 g1;obtain⟨gb,hgb⟩:∃gb:Nat,(0<m->no=some ⟨gb,0,none⟩)/\(0<m->w1.heap.size<=gb/\aC w2 gb (Co.ints m (fun x=>x))):=by
   rcases kQ.out.2 with ⟨h1,h2⟩|⟨g,c',cur,h1,h2,_⟩
   .exact⟨0,fun h=>by rw[Co.aZ] at h2;omega,fun h=>by rw[Co.aZ] at h2;omega⟩
   .have h3:=kQ.out
    rw[Co.aZ] at h1;cases h1;refine⟨g,fun _=>rfl,fun _=>⟨h2,?_⟩⟩;unfold aj at h3;rw[Co.aZ] at h3;exact vT h3
  have pM:=ζ hgb;have Wb:Below w.heap.size w w2:=aI.out.trans (aB.out.mono aI.out.size);have tR:=ζ Wb;have cZ:=ζ ((aB.out.block _ sG).trans HG.out);have hs1:=aI.out.size;clear hgb Wb kQ HG aB;go_wp2;go_loopw [7] (fun cb wr=>∃(ch:Bool) (F:Nat->Nat),cb= .bool ch/\(0<m->aC wr gb (Co.ints m F))/\Co.Down m es F/\(ch=false->Co.iW m es F)/\wr.heap[w.heap.size]? =some (.cells #[.int .i64 m,.slice ao es.length cap] 24 (0,0))/\Below w.heap.size w wr) (fun cb wr=>2*Co.sumTo (cellNat wr gb) m+Ak cb)
  case atStart=>exact⟨true,_,rfl,fun h=>(pM.out.2 h).2,Co.Down.id m es,fun h=>(by cases h),cZ.out,tR.out⟩
  case round=>
   obtain⟨ch,F0,rfl,U6,U7,PA,hg0,hb0⟩:=hrel;obtain⟨w0,rfl⟩:∃w0,w0=wr:=⟨wr,rfl⟩;have Eb:=ζ U6;have j4:=ζ hg0;have aH:=ζ hb0;have HD0:=ζ U7;have HM0:=ζ PA;cases ch with
   |true=>
    clear U6 U7 PA hg0 hb0;go_wp2;go_loopw [7,8] (fun cb cv wr=>∃(i:Nat) (ch:Bool) (F:Nat->Nat),i<=es.length/\cv= .int .i64 (i:Int)/\cb= .bool ch/\(0<m->aC wr gb (Co.ints m F))/\Pass m es F0 F i ch/\wr.heap[w.heap.size]? =some (.cells #[.int .i64 m,.slice ao es.length cap] 24 (0,0))/\Below w.heap.size w wr) (fun _ cv _=>es.length-(intOf cv).toNat)
    case atStart=>exact⟨0,false,F0,aax _,rfl,rfl,Eb.out,⟨HD0.out,aad _,fun h=>(by cases h),fun _ j hj=>by simp at hj⟩,j4.out,aH.out⟩
    case round=>
     obtain⟨i,ch,F,hi',rfl,rfl,hI,hP,hg,hb⟩:=hrel;have HI:=ζ hI;have HP:=ζ hP;have HG:=ζ hg;have HB:=ζ hb;obtain⟨x0,x1,-⟩:=af hg;by_cases hlt:i<es.length
     .have aQ:(i:Int)<(es.length:Int):=by omega
      have VW:(0:Int)<=(i:Int):=by omega
      obtain⟨q,hq⟩:∃q,es[i]? =some q:=⟨_,aac hlt⟩;have hok:=bY.out.each i q hq;unfold Si.ok at hok;obtain⟨b,o,rfl,c0,c1⟩:=(HE.out.later hb) i q hq;obtain⟨qu,qv⟩:=q;dsimp only at c0 c1 hok;obtain⟨u,rfl⟩:∃u:Nat,qu=(u:Int):=⟨qu.toNat,by omega⟩;obtain⟨v,rfl⟩:∃v:Nat,qv=(v:Int):=⟨qv.toNat,by omega⟩;have Dy:u<m:=by omega
      have uk:v<m:=by omega
      have hIn:=hI (by omega);have abn:=(pM.out.2 (by omega)).1;have hno:=pM.out.1 (by omega);subst hno;have cu:=hIn.cell (Co.ints_at (f:=F) Dy);have cv:=hIn.cell (Co.ints_at (f:=F) uk);have cf:=hIn.free;have u0:(0:Int)<=(u:Int):=by omega
      have u1:(u:Int)<(m:Int):=by omega
      have v0:(0:Int)<=(v:Int):=by omega
      have v1:(v:Int)<(m:Int):=by omega
      have BG:∀f:Nat->Nat,Co.iW m es f->f u=f v:=fun f hf=>IK hq Dy uk hf
      have htk:=Si.gW hq;have Zj:=ζ BG;have HTK:=ζ htk;have yg:=ζ hIn;have hne:u≠v:=by omega
      have Jw:w.heap.size≠gb:=by omega
      rcases ab3 (F u) (F v) with hc|hc|hc
      ·
       have d1:¬(F v:Int)<(F u:Int):=by omega
       have d2:(F u:Int)<(F v:Int):=by omega
       have n1:=hIn.set (i:=v) (by rw[Co.aZ];exact uk) (F u:Int);rw[Co.ints_set (F u) uk] at n1;have lZ:=ζ n1;have pI:Hid (Pass m es F0 (Co.upd F v (F u)) (i+1) true):=by
        have hs:=Co.sumTo_upd hc m uk;exact⟨hP.down.step uk Dy (fun f hf=>(BG f hf).symm) hc,by have:=hP.less;omega,fun _=>by have:=hP.less;omega,fun h=>(by cases h)⟩
       have gL:Hid ((wr.setCell ⟨gb,v,none⟩ (.int .i64 (F u:Int))).heap[w.heap.size]? =some (.cells #[.int .i64 m,.slice (some ⟨b,o,none⟩) es.length cap] 24 (0,0))):=(heap_setCell_other wr ⟨gb,v,none⟩ w.heap.size _ Jw).trans hg;have zv:=ζ (hb.setCell (p:=⟨gb,v,none⟩) (by show w.heap.size<=gb;omega) (.int .i64 (F u:Int)));clear hI hP hg hb hq hok hIn n1 BG htk;go_wp2_with fail;go_quiet (fail);go_wp2_with fail;go_quiet (fail);go_wp2_with fail;go_quiet (fail);go_wp2;go_roundw
       case rel=>exact⟨i+1,true,_,by omega,by go_num,rfl,fun _=>lZ.out,pI.out,gL.out,below_drewN zv.out _⟩
       case measure=>simp[intOf];omega
      .have d1:¬(F v:Int)<(F u:Int):=by omega
       have d2:¬(F u:Int)<(F v:Int):=by omega
       have pI:Hid (Pass m es F0 F (i+1) ch):=⟨hP.down,hP.less,hP.yes,fun h=>by rw[htk];exact(hP.no h).snoc hc⟩;clear hI hP hg hb hq hok hIn BG htk;go_wp2_with fail;go_quiet (fail);go_wp2_with fail;go_quiet (fail);go_wp2_with fail;go_quiet (fail);go_wp2;go_roundw
       case rel=>exact⟨i+1,ch,F,by omega,by go_num,rfl,HI.out,pI.out,HG.out,below_drewN HB.out _⟩
       case measure=>simp[intOf];omega
      ·
       have d1:(F v:Int)<(F u:Int):=by omega
       have n1:=hIn.set (i:=u) (by rw[Co.aZ];exact Dy) (F v:Int);rw[Co.ints_set (F v) Dy] at n1;have e1:=n1.cell (Co.ints_at Dy);have e2:=n1.cell (Co.ints_at uk);rw[Co.upd_same] at e1;rw[Co.aV _ (acs hne)] at e2;have lZ:=ζ n1;have pI:Hid (Pass m es F0 (Co.upd F u (F v)) (i+1) true):=by
        have hs:=Co.sumTo_upd hc m Dy;exact⟨hP.down.step Dy uk BG hc,by have:=hP.less;omega,fun _=>by have:=hP.less;omega,fun h=>(by cases h)⟩
       have gL:Hid ((wr.setCell ⟨gb,u,none⟩ (.int .i64 (F v:Int))).heap[w.heap.size]? =some (.cells #[.int .i64 m,.slice (some ⟨b,o,none⟩) es.length cap] 24 (0,0))):=(heap_setCell_other wr ⟨gb,u,none⟩ w.heap.size _ Jw).trans hg;have zv:=ζ (hb.setCell (p:=⟨gb,u,none⟩) (by show w.heap.size<=gb;omega) (.int .i64 (F v:Int)));have d2:¬(F v:Int)<(F v:Int):=by omega
       clear hI hP hg hb hq hok hIn n1 BG htk;go_wp2_with fail;go_quiet (fail);go_wp2_with fail;go_quiet (fail);go_wp2_with fail;go_quiet (fail);go_wp2;go_roundw
       case rel=>exact⟨i+1,true,_,by omega,by go_num,rfl,fun _=>lZ.out,pI.out,gL.out,below_drewN ((below_drewN HB.out _).setCell (p:=⟨gb,u,none⟩) (by show w.heap.size<=gb;omega) _) _⟩
       case measure=>simp[intOf];omega
     .have hd:¬((i:Int)<(es.length:Int)):=by omega
      have cG:Hid (ch=false->Co.iW m es F):=fun h=>by
       have:=hP.no h;rw[aaX (by omega)] at this;exact this
      clear hI hP hg hb;go_wp2;go_roundw
      case rel=>exact⟨ch,F,rfl,HI.out,HP.out.down,cG.out,HG.out,HB.out⟩
      case measure=>
       by_cases hm0:0<m
       .rw[sum_eq (HI.out hm0),sum_eq (Eb.out hm0)]
        have h1:=HP.out.less;have h2:=HP.out.yes;cases ch
        .simp[Ak];omega
        .have:=h2 rfl
         simp[Ak];omega
       .obtain rfl:m=0:=by omega
        have h2:=HP.out.yes;cases ch
        .simp[Ak,Co.sumTo]
        .have:=h2 rfl
         simp[Co.sumTo] at this
   |false=>
    have hF:∀x,x<m->F0 x=Co.xq m es x:=fun x hx=>U7.done (PA rfl) (Co.Iz m es) hx
    have hI1:0<m->aC w0 gb (Co.ints m (Co.xq m es)):=fun h=>by rw[<-Co.mF hF];exact U6 h
    have Vy:=ζ hI1;obtain⟨x0,x1,-⟩:=af hg0;have xZ:=ζ (Co.Iz m es).norm;obtain⟨M,hM⟩:∃M,Co.xq m es=M:=⟨_,rfl⟩;rw[hM] at Vy xZ;have pJ:=ζ hM;have hs0:=hb0.size;have aaA:=lt_of_block hg0;clear U6 U7 PA hF hI1 hb0 hM hg0;go_wp2_with (at_make;refine wpList_make_full _ rfl _ _ 55 rfl w0.heap.size 3 i0 (.int .i64 0) 1 Tryz.underlying55 hi hz0 hz1 _ _ _ _ m rfl rfl rfl rfl (by rw[hz2];omega) (by unfold maxLen;omega) (aad _) ?_;refine aaj ?_);refine ζ ?_;intro w3 hrow hg3;rw[cK] at hrow;have hik:=dV hrow;rw[<-Co.uh] at hik;have hb3:Below w0.heap.size w0 w3:=(aae _ _).grown hg3 (aad _) (fun j hj=>by cases hj);have jd:=ζ hik;have aJ:=ζ hb3;clear hrow hg3 hik hb3 x0 x1;go_wp2;go_loopw [12,13] (fun s c wr=>∃(k:Nat) (F:Nat->Nat),k<=m/\c= .int .i64 (k:Int)/\s= .int .i64 (Co.aA (Co.fix M) k:Int)/\(∀i,i<k->F i=Co.num M i)/\ak wr w0.heap.size (Co.ints m F)/\Below w0.heap.size w0 wr) (fun _ c _=>m-(intOf c).toNat)
    case atStart=>exact⟨0,_,aax _,rfl,rfl,fun i hi=>by omega,jd.out,aJ.out⟩
    case round=>
     obtain⟨k,F,hk,rfl,rfl,hF,j5,hb⟩:=hrel;have hcl:=Co.bF (Co.fix M) k;have hgr:=(hb.block w.heap.size aaA).trans j4.out;obtain⟨x0,x1,-⟩:=af hgr;have HF:=ζ hF;have HIS:=ζ j5;have HB:=ζ hb;by_cases hkn:k<m
     .have hk0:(0:Int)<=(k:Int):=by omega
      have hk1:(k:Int)<(m:Int):=by omega
      have hno:=pM.out.1 (by omega);have cl:=((Vy.out (by omega)).later hb).cell (Co.ints_at (f:=M) hkn);have cx:=j5.cell (Co.ints_at (f:=F) hkn);have cf:=j5.free;have pU:=hb.size;have abn:=(Vy.out (by omega)).lt;subst hno;by_cases hf:M k=k
      .have hd:((M k:Int)==(k:Int))=true:=by simp[hf]
       have pY:=ζ (Co.tM hf);have D9:=ζ (Co.EE hf);obtain⟨z,hz⟩:∃z,Co.aA (Co.fix M) k=z:=⟨_,rfl⟩;rw[hz] at hcl pY D9 ⊢;have n1:=j5.set k (z:Int);rw[Co.ints_set z hkn] at n1;have lZ:=ζ n1;have TS:=ζ (hb.setCell (p:=⟨w0.heap.size,k,none⟩) (aad _) (.int .i64 (z:Int)));clear hF j5 hb n1 hgr hz hf;go_wp2;go_roundw
       case rel=>
        refine⟨k+1,_,by omega,by go_num,by rw[pY.out];go_num,fun i hi=> ?_,lZ.out,TS.out⟩;by_cases e:i=k
        .subst e;rw[Co.upd_same,D9.out]
        .rw[Co.aV _ e];exact HF.out i (by omega)
       case measure=>simp[intOf];omega
      .have hd:((M k:Int)==(k:Int))=false:=by simp;omega
       have hml:=xZ.out.le k hkn;have hmk:M k<k:=by omega
       have pY:=ζ (Co.wq hf);have Mh:=HF.out (M k) hmk;rw[Co.Bb xZ.out hkn] at Mh;have TK:=ζ Mh;obtain⟨z,hz⟩:∃z,Co.aA (Co.fix M) k=z:=⟨_,rfl⟩;rw[hz] at hcl pY ⊢;obtain⟨y,hy⟩:∃y,M k=y:=⟨_,rfl⟩;rw[hy] at hmk hd TK cl;have cy:=j5.cell (Co.ints_at (f:=F) (show y<m by omega));have y0:(0:Int)<=(y:Int):=by omega
       have y1:(y:Int)<(m:Int):=by omega
       have n1:=j5.set k (F y:Int);rw[Co.ints_set (F y) hkn] at n1;have lZ:=ζ n1;have TS:=ζ (hb.setCell (p:=⟨w0.heap.size,k,none⟩) (aad _) (.int .i64 (F y:Int)));clear hF j5 hb n1 hgr hz hf hy hml Mh;go_wp2;go_roundw
       case rel=>
        refine⟨k+1,_,by omega,by go_num,by rw[pY.out],fun i hi=> ?_,lZ.out,TS.out⟩;by_cases e:i=k
        .subst e;rw[Co.upd_same,TK.out]
        .rw[Co.aV _ e];exact HF.out i (by omega)
       case measure=>simp[intOf];omega
     .have hd:¬((k:Int)<(m:Int)):=by omega
      obtain rfl:k=m:=by omega
      rw[Co.mF hF] at j5;have ac8:=ζ j5;clear hF j5 hb hgr;go_wp2
      go_ret3
      refine⟨.inl ⟨k,.slice (some ⟨w0.heap.size,0,none⟩) k k,rfl,bY.out,?_,?_⟩,aH.out.trans (HB.out.mono hs0)⟩
      .rw[pJ.out];rfl
      .rw[pJ.out];exact ac8.out.own hs0 (Co.aZ _ _) (by omega)
end
section
open Go.Proofs.Tryz
open Go.RowKit Go.Sort
theorem Dl (n:Int) (ao:Option Addr) (ca:Nat) (es:List (Int×Int)) (xo:Option Addr) (xc:Nat) (ls:List (List Int)) (w:World) (he:ah w ao es) (hl:es.length<=4611686018427387904) (hx:bA w xo ls):
 Calls prog 45 #[az n ao es.length ca,.slice xo ls.length xc] w (zx (Ro.check n es ls).2 (Fa.gz n.toNat es ls) w):=by
 have hb0:Below w.heap.size w (w.alloc (.cells #[.int .i64 n,.slice ao es.length ca] 24)):=(aae _ _).alloc (aad _) _;have HN:=ζ (Lr n ao ca es xo xc ls _ (he.later hb0) hl (hx.later hb0));have iI:=ζ (heap_alloc_new w (.cells #[.int .i64 n,.slice ao es.length ca] 24));have aH:=ζ hb0;have Qm:Hid (∀U,Below w.heap.size w U->Calls prog 89 #[.agg #[.int .i64 n,.slice ao es.length ca]] U (GU n es U)):=fun U hU=>QI n ao ca es U (he.later hU) hl
 have HIS:Hid (∀U,Below w.heap.size w U->Calls prog 90 #[.agg #[.int .i64 n,.slice ao es.length ca]] U (KA n es U)):=fun U hU=>AV n ao ca es U (he.later hU) hl
 unfold az at HN ⊢;obtain⟨C,hC⟩:∃C,C=(Ro.check n es ls).2:=⟨_,rfl⟩;have HC:=ζ hC;rw[<-hC] at HN ⊢;clear he hx hb0 hC;go_enter func45,ntmps45;go_wp2_with (go_at_call 88;refine HN.out.mono ?_;intro e w1 hp;obtain⟨hb1,⟨hc,rfl⟩|⟨hc,v,vs,rfl,LZ⟩⟩:=hp<;>refine aaj ?_)
 all_goals refine ζ ?_
 .have HB:=ζ (aH.out.trans (hb1.mono aH.out.size))
  have hcb:(C != 0)=true:=by simpa using hc
  have rC:=ζ hc;clear hc hb1;go_wp2;go_ret2;exact⟨by rw[if_neg rC.out];rfl,HB.out⟩
 .have hc':=hc
  rw[HC.out] at hc';have hro:=Ro.ig.1 hc';have hv:=Si.aK.1 hro.val;obtain⟨N,rfl⟩:∃N:Nat,n=(N:Int):=⟨n.toNat,by have:=hv.lo;omega⟩;have hfw:=hv.few;have hhi:=hv.hi;have HV:=ζ hv;obtain⟨-,g,j6,hge,-⟩:=Fa.EU hro;have HB:=ζ (aH.out.trans (hb1.mono aH.out.size));subst hc;have t0:((0:Int) != 0)=false:=rfl;have hs1:=HB.out.size;have MU:Hid (∀U,Below w1.heap.size w1 U->U.cell? ⟨w.heap.size,0,none⟩=some (.int .i64 (N:Int))/\U.cell? ⟨w.heap.size,1,none⟩=some (.slice ao es.length ca)):=fun U hU=>by
   have mG:=(hb1.block _ (lt_of_block iI.out)).trans iI.out;obtain⟨x0,x1,-⟩:=af ((hU.block _ (lt_of_block mG)).trans mG);exact⟨x0,x1⟩
  obtain⟨fo,fc,oM⟩:=bG LZ;obtain⟨F,hF⟩:∃F,F=(Fa.all es ls).length:=⟨_,rfl⟩;rw[<-hF] at oM hge;subst oM;obtain⟨c,hcc⟩:∃c,c=Co.cnt N (Fa.cp N es):=⟨_,rfl⟩;obtain⟨i,BO⟩:∃i,i=Fa.kK N es:=⟨_,rfl⟩;rw[<-hcc,<-BO] at hge;have hcl:c<=N:=by rw[hcc];exact Co.NY _ _
  have hil:i<=N:=by rw[BO];exact Co.bF _ _
  have zq:Hid (Fa.gz (N:Int).toNat es ls=((2*(c:Int)-(i:Int)-(N:Int)+(es.length:Int)-(F:Int)).tdiv 2)):=by
   have:(N:Int).toNat=N:=by omega
   rw[this];unfold Fa.gz;rw[<-hcc,<-BO,<-hF];exact ζ rfl
  have q1:IntKind.i64.wrap ((2:Int)*(c:Int))=2*(c:Int):=by rw[aam];omega
  have q2:IntKind.i64.wrap (2*(c:Int)-(i:Int))=2*(c:Int)-(i:Int):=by rw[aam];omega
  have q3:IntKind.i64.wrap (2*(c:Int)-(i:Int)-(N:Int))=2*(c:Int)-(i:Int)-(N:Int):=by rw[aam];omega
  have q4:IntKind.i64.wrap (2*(c:Int)-(i:Int)-(N:Int)+(es.length:Int))=2*(c:Int)-(i:Int)-(N:Int)+(es.length:Int):=by rw[aam];omega
  have q5:IntKind.i64.wrap (2*(c:Int)-(i:Int)-(N:Int)+(es.length:Int)-(F:Int))=2*(c:Int)-(i:Int)-(N:Int)+(es.length:Int)-(F:Int):=by rw[aam];omega
  have q6:IntKind.i64.wrap ((2*(c:Int)-(i:Int)-(N:Int)+(es.length:Int)-(F:Int)).tdiv 2)=(2*(c:Int)-(i:Int)-(N:Int)+(es.length:Int)-(F:Int)).tdiv 2:=by
   have e:2*(c:Int)-(i:Int)-(N:Int)+(es.length:Int)-(F:Int)=2*(g:Int):=by omega
   rw[e,Int.mul_tdiv_cancel_left _ (by decide),aam];omega
  have zX:=ζ (Qm.out w1 HB.out);have sP:=ζ hcc;have HII:=ζ BO;obtain⟨Vd,Vc⟩:=MU.out w1 (aae _ _);clear hb1 hro hv LZ j6 hge hF hcc BO hfw hc';go_wp2_with (go_at_call 89;refine zX.out.mono ?_;intro e w2 hp;obtain⟨⟨m1,ov,hmn,-,rfl,-⟩|⟨hcv,-⟩,hb2⟩:=hp<;>refine aaj ?_)
  all_goals (first|(exact absurd (Si.aK.2 HV.out) (by rw[hcv];simp))|skip)
  refine ζ ?_;have hm1:m1=N:=by omega
  subst hm1;have ec:Co.cnt m1 (Co.xq m1 es)=c:=sP.out.symm;rw[ec];have Sr:Below w1.heap.size w1 w2:=hb2;have aB:=ζ (HB.out.trans (hb2.mono hs1));have kQ:=ζ (HIS.out w2 aB.out);have KU:=ζ Sr;clear Vd Vc;obtain⟨Vd,Vc⟩:=MU.out w2 Sr;clear hb2 Sr ec hmn zX;go_wp2_with (go_at_call 90;refine kQ.out.mono ?_;intro e w3 hp;obtain⟨⟨m2,hmn,-,rfl⟩|⟨hcv,-⟩,hb3⟩:=hp<;>refine aaj ?_)
  all_goals (first|(exact absurd (Si.aK.2 HV.out) (by rw[hcv];simp))|skip)
  refine ζ ?_;have hm2:m2=m1:=by omega
  subst hm2;have ei:Co.iso m2 es=i:=HII.out.symm;rw[ei];have aJ:=ζ (aB.out.trans (hb3.mono aB.out.size));have yR:=KU.out.trans (hb3.mono KU.out.size);clear Vd Vc;obtain⟨Vd,Vc⟩:=MU.out w3 yR;clear hb3 yR ei hmn kQ;go_wp2;go_ret2;exact⟨by rw[if_pos rfl,zq.out];rfl,aJ.out⟩
theorem FN (n:Int) (ao:Option Addr) (ca:Nat) (es:List (Int×Int)) (xo:Option Addr) (xc:Nat) (ls:List (List Int)) (w:World) (he:ah w ao es) (hl:es.length<=4611686018427387904) (hx:bA w xo ls):
 Calls prog 22 #[az n ao es.length ca,.slice xo ls.length xc] w fun e w'=>e= .returned (.bool (decide ((Ro.check n es ls).2=0/\Fa.gz n.toNat es ls=0)))/\Below w.heap.size w w':=by
 have hb0:Below w.heap.size w (w.alloc (.cells #[.int .i64 n,.slice ao es.length ca] 24)):=(aae _ _).alloc (aad _) _;have HN:=ζ (Dl n ao ca es xo xc ls _ (he.later hb0) hl (hx.later hb0));have aH:=ζ hb0;unfold az at HN ⊢;obtain⟨C,hC⟩:∃C,C=(Ro.check n es ls).2:=⟨_,rfl⟩;obtain⟨g,hg⟩:∃g,g=Fa.gz n.toNat es ls:=⟨_,rfl⟩;rw[<-hC,<-hg];rw[<-hC,<-hg] at HN;obtain⟨T,hT⟩:∃T,T=decide (C=0/\g=0):=⟨_,rfl⟩;rw[<-hT];by_cases h0:C=0
 .subst h0
  have t0:((0:Int)==0)=true:=rfl;by_cases h1:g=0
  .have t1:(g==0)=true:=by simpa using h1
   have hD:T=true:=by rw[hT];simp[h1]
   subst hD;have uY:Hid (∀(W W':World) (e:Ending),zx 0 g W e W'->e= .returned (.tuple #[.int .i64 g,.int .i64 0])/\Below W.heap.size W W'):=fun W W' e h=>⟨h.1,h.2⟩
   clear he hx hb0 hC hg h1 hT;go_enter func22,ntmps22;go_wp2_with (go_at_call 45;refine HN.out.mono ?_;intro e w1 hp;obtain⟨rfl,hb1⟩:=uY.out _ _ _ hp;refine aaj ?_);refine ζ ?_;have HB:=ζ (aH.out.trans (hb1.mono aH.out.size));clear hb1 hp;go_wp2;go_ret;exact⟨rfl,HB.out⟩
  .have t1:(g==0)=false:=by simpa using h1
   have hD:T=false:=by rw[hT];simp[h1]
   subst hD;have uY:Hid (∀(W W':World) (e:Ending),zx 0 g W e W'->e= .returned (.tuple #[.int .i64 g,.int .i64 0])/\Below W.heap.size W W'):=fun W W' e h=>⟨h.1,h.2⟩
   clear he hx hb0 hC hg h1 hT;go_enter func22,ntmps22;go_wp2_with (go_at_call 45;refine HN.out.mono ?_;intro e w1 hp;obtain⟨rfl,hb1⟩:=uY.out _ _ _ hp;refine aaj ?_);refine ζ ?_;have HB:=ζ (aH.out.trans (hb1.mono aH.out.size));clear hb1 hp;go_wp2;go_ret;exact⟨rfl,HB.out⟩
 .have t0:(C==0)=false:=by simpa using h0
  have hD:T=false:=by rw[hT];simp[h0]
  subst hD;have uY:Hid (∀(W W':World) (e:Ending),zx C g W e W'->e= .returned (.tuple #[.int .i64 0,.int .i64 C])/\Below W.heap.size W W'):=fun W W' e h=>⟨by rw[h.1,if_neg h0],h.2⟩
  clear he hx hb0 hC hg h0 hT;go_enter func22,ntmps22;go_wp2_with (go_at_call 45;refine HN.out.mono ?_;intro e w1 hp;obtain⟨rfl,hb1⟩:=uY.out _ _ _ hp;refine aaj ?_);refine ζ ?_;have HB:=ζ (aH.out.trans (hb1.mono aH.out.size));clear hb1 hp;go_wp2;go_ret;exact⟨rfl,HB.out⟩
end
section
open Go.RowKit Go.Sort
theorem Lt (n:Nat) (ao:Option Addr) (ca:Nat) (es:List (Int×Int)) (j:Nat) (w:World) (he:ah w ao es) (hv:Si.Val n es) (hj:j<2*es.length):
 Calls Tryz.prog 101 #[.agg #[.int .i64 (n:Int),.slice ao es.length ca],.int .i64 (j:Int)] w fun e w'=>e= .returned (.int .i64 (Cs.to es j:Int))/\Below w.heap.size w w':=by
 have hb0:Below w.heap.size w (w.alloc (.cells #[.int .i64 (n:Int),.slice ao es.length ca] 24)):=(aae _ _).alloc (aad _) _;have bQ:=hv.few;have Ri:=Cs.kS j (by omega);have hfr:=kG n ao ca es (Cs.twin j) _ (he.later hb0) hv (Cs.eM hj);rw[Cs.fQ] at hfr;have yh:=ζ hfr;have aH:=ζ hb0;clear he hv hb0 hfr;go_enter Tryz.func101,Tryz.ntmps101;go_wp2_with (go_at_call 100;refine yh.out.mono ?_;rintro e w1 ⟨rfl,hb1⟩);go_ret;exact⟨rfl,aH.out.trans (hb1.mono aH.out.size)⟩
end
section
open Go.RowKit Go.Sort
theorem Ll (n:Nat) (ao:Option Addr) (ca:Nat) (es:List (Int×Int)) (u:Nat) (x:Int) (w:World) (he:ah w ao es) (hv:Si.Val n es):
 Calls Tryz.prog 59 #[.agg #[.int .i64 (n:Int),.slice ao es.length ca],.int .i64 (u:Int),.int .i64 x] w fun e w'=>e= .returned (.int .i64 (Ro.hl es u x))/\Below w.heap.size w w':=by
 have hb0:Below w.heap.size w (w.alloc (.cells #[.int .i64 (n:Int),.slice ao es.length ca] 24)):=(aae _ _).alloc (aad _) _;have bQ:=hv.few;have HE:=ζ he;have bY:=ζ hv;have aH:=ζ hb0;have j4:Hid ((w.alloc (.cells #[.int .i64 (n:Int),.slice ao es.length ca] 24)).heap[w.heap.size]? =some (.cells #[.int .i64 (n:Int),.slice ao es.length ca] 24 (0,0))):=heap_alloc_new w _;have hmul:IntKind.i64.wrap (2*(es.length:Int))=2*(es.length:Int):=by rw[aam];omega
 clear he hv hb0;go_enter Tryz.func59,Tryz.ntmps59;go_wp2;go_loopw [7] (fun c6 wr=>∃j:Nat,j<=2*es.length/\c6= .int .i64 (j:Int)/\Ro.half es u x j=none/\wr.heap[w.heap.size]? =some (.cells #[.int .i64 (n:Int),.slice ao es.length ca] 24 (0,0))/\Below w.heap.size w wr) (fun c6 _=>2*es.length-(intOf c6).toNat)
 case atStart=>exact⟨0,aax _,rfl,rfl,j4.out,aH.out⟩
 case round=>
  obtain⟨j,hj,rfl,hno,hg,hb⟩:=hrel;obtain⟨g0,g1,-⟩:=af hg;have HG:=ζ hg;have HB:=ζ hb;have cG:=ζ hno;clear hg hb hno;by_cases hlt:j<2*es.length
  .have aQ:(j:Int)<2*(es.length:Int):=by omega
   have HF:=ζ (kG n ao ca es j wr (HE.out.later HB.out) bY.out hlt);by_cases hf:Cs.fr es j=u
   .have t1:((Cs.fr es j:Int)==(u:Int))=true:=by simp;omega
    have Qq:=ζ hf;clear hf;go_wp2_with (go_at_call 100;refine HF.out.mono ?_;rintro e w2 ⟨rfl,hb2⟩;refine aaj ?_);refine ζ ?_;have Gw:=(hb2.block _ (lt_of_block HG.out)).trans HG.out;have aB:=ζ (HB.out.trans (hb2.mono HB.out.size));clear g0 g1;obtain⟨g0,g1,-⟩:=af Gw;have cZ:=ζ Gw;have HT:=ζ (Lt n ao ca es j w2 (HE.out.later aB.out) bY.out hlt);clear hb2 Gw;by_cases ht:(Cs.to es j:Int)=x
    .have t2:((Cs.to es j:Int)==x)=true:=by simp[ht]
     have HX:=ζ (Ro.XU bY.out hlt Qq.out ht);clear ht;go_wp2_with (go_at_call 101;refine HT.out.mono ?_;rintro e w3 ⟨rfl,hb3⟩;refine aaj ?_);refine ζ ?_;have aJ:=ζ (aB.out.trans (hb3.mono aB.out.size));clear hb3 g0 g1;go_wp2;go_ret;exact⟨by rw[(Ro.BL HX.out).1];rfl,aJ.out⟩
    .have t2:((Cs.to es j:Int)==x)=false:=beq_false_of_ne ht
     have wP:Hid (Ro.half es u x (j+1)=none):=by
      show Ro.half es u x (j+1)=none;unfold Ro.half;rw[cG.out];exact if_neg (fun h=>ht h.2)
     clear ht;go_wp2_with (go_at_call 101;refine HT.out.mono ?_;rintro e w3 ⟨rfl,hb3⟩;refine aaj ?_);refine ζ ?_;have l7:=ζ ((hb3.block _ (lt_of_block cZ.out)).trans cZ.out);have aJ:=ζ (aB.out.trans (hb3.mono aB.out.size));clear hb3 g0 g1;go_wp2;go_roundw
     case rel=>exact⟨j+1,by omega,by go_num,wP.out,l7.out,aJ.out⟩
     case measure=>simp[intOf];omega
   .have t1:((Cs.fr es j:Int)==(u:Int))=false:=by simp;omega
    have wP:Hid (Ro.half es u x (j+1)=none):=by
     show Ro.half es u x (j+1)=none;unfold Ro.half;rw[cG.out];exact if_neg (fun h=>hf h.1)
    clear hf;go_wp2_with (go_at_call 100;refine HF.out.mono ?_;rintro e w2 ⟨rfl,hb2⟩;refine aaj ?_);refine ζ ?_;have cZ:=ζ ((hb2.block _ (lt_of_block HG.out)).trans HG.out);have aB:=ζ (HB.out.trans (hb2.mono HB.out.size));clear hb2 g0 g1;go_wp2;go_roundw
    case rel=>exact⟨j+1,by omega,by go_num,wP.out,cZ.out,aB.out⟩
    case measure=>simp[intOf];omega
  .have aQ:¬(j:Int)<2*(es.length:Int):=by omega
   obtain rfl:j=2*es.length:=by omega
   go_wp2;go_ret;exact⟨by rw[(Ro.Gn cG.out).1];rfl,HB.out⟩
end
section
open Go.Proofs.Tryz
open Go.RowKit Go.Sort
theorem Lu (n:Int) (ao:Option Addr) (ca:Nat) (es:List (Int×Int)) (xo:Option Addr) (xc:Nat) (ls:List (List Int)) (w:World) (he:ah w ao es) (hl:es.length<=4611686018427387904) (hx:bA w xo ls):
 Calls prog 31 #[az n ao es.length ca,.slice xo ls.length xc] w (ke n es ls w):=by
 have hb0:Below w.heap.size w (w.alloc (.cells #[.int .i64 n,.slice ao es.length ca] 24)):=(aae _ _).alloc (aad _) _;have xW:=ζ (eW n ao ca es _ (he.later hb0) hl);have HE:=ζ he;have HX:=ζ hx;have aH:=ζ hb0;have uX:=ζ (Ro.BJ es 0 ls);unfold az at xW ⊢;clear he hx hb0;cases hv:Si.valid n es with
 |false=>
  rw[hv] at xW;have dI:Hid (Ro.check n es (Ro.hls es 0 ls)=(0,1)):=by show _=_;simp[Ro.check,hv]
  clear hv;go_enter func31,ntmps31;go_wp2_with (go_at_call 25;refine xW.out.mono ?_;rintro e w' ⟨rfl,hb⟩;refine aaj ?_);refine ζ ?_;have HB:=ζ (aH.out.trans (hb.mono aH.out.size));clear hb;go_wp2
  go_ret3
  exact ke.bad HB.out dI.out (by decide)
 |true=>
  rw[hv] at xW;have hval:=Si.aK.1 hv;have hhi:=hval.hi;have hlo:=hval.lo;have bQ:=hval.few;obtain⟨m,rfl⟩:∃m:Nat,n=(m:Int):=⟨n.toNat,by omega⟩;have bY:=ζ hval;by_cases hk:ls.length=m
  .have dI:Hid (Ro.check (m:Int) es (Ro.hls es 0 ls)=Ro.fU es 0 (Ro.hls es 0 ls)):=by
    show _=_;unfold Ro.check;rw[if_pos hv,if_neg (by rw[uX.out];omega)]
   have HK:=ζ hk;rw[hk];clear hv hval hk;go_enter func31,ntmps31;go_wp2_with (go_at_call 25;refine xW.out.mono ?_;rintro e w1 ⟨rfl,hb⟩;refine aaj ?_);refine ζ ?_;have oQ:w1.heap[w.heap.size]? =some (.cells #[.int .i64 (m:Int),.slice ao es.length ca] 24 (0,0)):=(hb.block _ (by simp)).trans (heap_alloc_new w _);obtain⟨g0,g1,-⟩:=af oQ;have vW:w.heap.size<w1.heap.size:=lt_of_block oQ;have aI:=ζ (aH.out.trans (hb.mono aH.out.size));have G0:=ζ g0;have G1:=ζ g1;clear hb oQ;go_wp2;clear g0 g1;go_loopw [7,8] (fun c d wr=>∃(k:Nat) (vs:List Value),k<=m/\d= .int .i64 (k:Int)/\Ro.fU es 0 (Ro.hls es 0 ls)=Ro.fU es k ((Ro.hls es 0 ls).drop k)/\ay wr w1.heap.size c vs ((Ro.hls es 0 ls).take k)/\Below w1.heap.size w1 wr) (fun _ d _=>m-(intOf d).toNat)
   case atStart=>exact⟨0,[],aax _,rfl,rfl,ay.nil _ _,aae _ _⟩
   case round=>
    obtain⟨k,vs,hk,rfl,hch,hr,hb⟩:=hrel;obtain⟨W0,rfl⟩:∃W0,W0=wr:=⟨_,rfl⟩;have iz:=ζ hch;have HR:=ζ hr;have HB:=ζ hb;have vU:=hb.size;obtain⟨uo,uc,rfl⟩:=bG hr;generalize pV:((Ro.hls es 0 ls).take k).length=ql at*;have HQL:=ζ pV;have g0:=(hb.cell (p:=⟨w.heap.size,0,none⟩) vW).trans G0.out;have g1:=(hb.cell (p:=⟨w.heap.size,1,none⟩) vW).trans G1.out;clear hch hr hb pV;by_cases hlt:k<m
    .have aQ:(k:Int)<(m:Int):=by omega
     have hk0:(0:Int)<=(k:Int):=by omega
     obtain⟨l,hlk⟩:∃l,ls[k]? =some l:=⟨_,aac (by have:=HK.out;omega)⟩;obtain⟨b,o,A,C,rfl,hcell,hL,lN,-⟩:=((HX.out.later aI.out).later HB.out) k l hlk;have hbl:b<W0.heap.size:=block_lt_of_cell hcell;have HL:=ζ hL;have Ca:=Ro.Gm (es:=es) (k:=0) hlk;rw[abI] at Ca;have ew:=ζ Ca;obtain⟨p1,oJ⟩:∃p1,l.length=p1:=⟨_,rfl⟩;rw[oJ] at hcell lN HL;have pI:=ζ oJ;have C7:=ζ hcell;clear hL hlk Ca oJ;go_wp2;clear g0 g1 hcell;go_loopw [9,10] (fun c5 c6 w5=>∃i:Nat,i<=p1/\c6= .int .i64 (i:Int)/\Ro.fA es k [] (l.map (Ro.hl es k))=Ro.fA es k ((l.map (Ro.hl es k)).take i) ((l.map (Ro.hl es k)).drop i)/\aj w5 W0.heap.size c5 ((l.map (Ro.hl es k)).take i)/\Below W0.heap.size W0 w5) (fun _ c6 _=>p1-(intOf c6).toNat)
     case atStart=>exact⟨0,aax _,rfl,rfl,aj.nil _ _,aae _ _⟩
     case round=>
      obtain⟨i,hi,rfl,hel,XO,hb5⟩:=hrel;have pN:=ζ hel;have fJ:=ζ hb5;have Tt:=ζ XO;have hs5:=hb5.size;obtain⟨ro,rc,SM,-,-⟩:=XO.form;subst SM;generalize hrl:((l.map (Ro.hl es k)).take i).length=rl at*;have KH:Hid (rl=i):=by show _=_;rw[<-hrl,abu,aaE,pI.out];omega
      have Y7:=ζ hrl;have hcr:=(hb5.cell (p:=⟨b,o+k,none⟩) hbl).trans C7.out;have hbr:b<wr.heap.size:=block_lt_of_cell hcr;have g0:=(hb5.cell (p:=⟨w.heap.size,0,none⟩) (by show w.heap.size<_;omega)).trans ((HB.out.cell (p:=⟨w.heap.size,0,none⟩) vW).trans G0.out);have g1:=(hb5.cell (p:=⟨w.heap.size,1,none⟩) (by show w.heap.size<_;omega)).trans ((HB.out.cell (p:=⟨w.heap.size,1,none⟩) vW).trans G1.out);have hgr:w.heap.size<wr.heap.size:=block_lt_of_cell g0;have HEW:=ζ (((HE.out.later aI.out).later HB.out).later hb5);have x8:=ζ (HL.out.later hb5);clear hel hb5 XO hrl;have hne:=LW.any wr;have k0:∀D:LW wr,D.val.cell? ⟨w.heap.size,0,none⟩=some (.int .i64 (m:Int)):=fun D=>(D.h.cell (p:=⟨w.heap.size,0,none⟩) hgr).trans g0
      have k1:∀D:LW wr,D.val.cell? ⟨w.heap.size,1,none⟩=some (.slice ao es.length ca):=fun D=>(D.h.cell (p:=⟨w.heap.size,1,none⟩) hgr).trans g1
      have k2:∀D:LW wr,D.val.cell? ⟨b,o+k,none⟩=some (.slice A p1 C):=fun D=>(D.h.cell (p:=⟨b,o+k,none⟩) hbr).trans hcr
      by_cases hil:i<p1
      .have BN:(i:Int)<(p1:Int):=by omega
       have mj:(0:Int)<=(i:Int):=by omega
       obtain⟨x,eP⟩:∃x,l[i]? =some x:=⟨_,aac (by have:=pI.out;omega)⟩;obtain⟨lb,lo',rfl,lc⟩:=x8.out.elem eP;have RQ:lb<wr.heap.size:=block_lt_of_cell lc;have k3:∀D:LW wr,D.val.cell? ⟨lb,lo'+i,none⟩=some (.int .i64 x):=fun D=>(D.h.cell (p:=⟨lb,lo'+i,none⟩) RQ).trans lc
       have TF:=ζ (fun (D:LW wr)=>Ll m ao ca es k x D.val (HEW.out.later D.h) bY.out);have fj:(l.map (Ro.hl es k))[i]? =some (Ro.hl es k x):=by rw[aaP,eP];rfl
       have pK:=ζ fj;have KC:=ζ eP;clear lc fj eP;cases hh:Ro.half es k x (2*es.length) with
       |none=>
        obtain⟨e1,e2⟩:=Ro.Gn hh;rw[e1] at TF pK;have wQ:=ζ e2;clear hh e1 e2;go_wp2_with fail;refine aG (by kernel_rfl) (by kernel_rfl) ?_
        repeat (go_big_quiet_step ((go_at_call 59;exact Calls.lw (TF.out _))))
        refine wpQuiet_nil ?_;rintro _ ⟨D,rfl⟩;have iA:=ζ (aI.out.trans ((HB.out.trans ((fJ.out.trans (D.h.mono hs5)).mono vU)).mono (adE vW)));generalize D.val=W at*;clear k0 k1 k2 k3;go_wp2
        go_ret3
        refine ke.bad iA.out ?_ (by decide);rw[dI.out,iz.out,Ro.drop_cons ew.out,Ro.eU (Ro.jN (by rw[pN.out,Ro.drop_cons pK.out,Ro.nW wQ.out]) (by decide)) (by decide)]
       |some h=>
        obtain⟨e1,e2,e3⟩:=Ro.BL hh;rw[e1] at TF pK;have wQ:=ζ e2;have HM:=ζ (fun pre=>Ro.UM (pre:=pre) hh);have UR:¬(h:Int)<0:=by omega
        clear hh e1 e2;go_wp2_with fail;refine aG (by kernel_rfl) (by kernel_rfl) ?_
        repeat (go_big_quiet_step ((go_at_call 59;exact Calls.lw (TF.out _))))
        refine wpQuiet_nil ?_;rintro _ ⟨D,rfl⟩;have iA:=ζ (fJ.out.trans (D.h.mono hs5));have Ze:=ζ (Tt.out.later D.h);have d0:=k0 D;have d1:=k1 D;have d2:=k2 D;have d3:=k3 D;have Ea:=ζ (x8.out.later D.h);generalize D.val=W at*;clear k0 k1 k2 k3 hne hcr g0 g1 TF;have hbW:b<W.heap.size:=block_lt_of_cell d2;have RR:lb<W.heap.size:=block_lt_of_cell d3;have hne:=LW.any W;have k2:∀D:LW W,D.val.cell? ⟨b,o+k,none⟩=some (.slice (some ⟨lb,lo',none⟩) p1 C):=fun D=>(D.h.cell (p:=⟨b,o+k,none⟩) hbW).trans d2
        have k3:∀D:LW W,D.val.cell? ⟨lb,lo'+i,none⟩=some (.int .i64 x):=fun D=>(D.h.cell (p:=⟨lb,lo'+i,none⟩) RR).trans d3
        have gJ:=ζ (fun (D:LW W)=>yw (some ⟨lb,lo',none⟩) C p1 i l x D.val pI.out (Ea.out.ints.later D.h) hi (by omega));have Zj:Hid ((h:Int)∈(l.map (Ro.hl es k)).take i↔x∈l.take i):=by
         show _↔_;rw[<-List.map_take];exact HM.out _
        cases hst:decide (x∈l.take i) with
        |true=>
         have CV:Hid (∀D:LW W,Calls prog 60 #[.slice (some ⟨lb,lo',none⟩) p1 C,.int .i64 (i:Int),.int .i64 x] D.val fun e w'=>e= .returned (.bool true)/\Below D.val.heap.size D.val w'):=fun D=>(gJ.out D).mono fun e w' hh=>⟨by rw[hh.1,hst],by rw[hh.2];exact aae _ _⟩
         have HST:=ζ hst;clear hst gJ;go_wp2_with fail;refine aG (by kernel_rfl) (by kernel_rfl) ?_
         repeat (go_big_quiet_step ((go_at_call 60;exact Calls.lw (CV.out _))))
         refine wpQuiet_nil ?_;rintro _ ⟨D,rfl⟩;have bT:=ζ (aI.out.trans ((HB.out.trans ((iA.out.trans (D.h.mono iA.out.size)).mono vU)).mono (adE vW)));generalize D.val=W2 at*;clear k2 k3;go_wp2
         go_ret3
         refine ke.bad bT.out ?_ (by decide);rw[dI.out,iz.out,Ro.drop_cons ew.out,Ro.eU (Ro.jN (by rw[pN.out,Ro.drop_cons pK.out,Ro.lV wQ.out (Zj.out.2 (of_decide_eq_true HST.out))]) (by decide)) (by decide)]
        |false=>
         have CV:Hid (∀D:LW W,Calls prog 60 #[.slice (some ⟨lb,lo',none⟩) p1 C,.int .i64 (i:Int),.int .i64 x] D.val fun e w'=>e= .returned (.bool false)/\Below D.val.heap.size D.val w'):=fun D=>(gJ.out D).mono fun e w' hh=>⟨by rw[hh.1,hst],by rw[hh.2];exact aae _ _⟩
         have HST:=ζ hst;clear hst gJ;go_wp2_with fail;refine aG (by kernel_rfl) (by kernel_rfl) ?_
         repeat (go_big_quiet_step ((go_at_call 60;exact Calls.lw (CV.out _))))
         refine wpQuiet_nil ?_;rintro _ ⟨D,rfl⟩;have bT:=ζ (iA.out.trans (D.h.mono iA.out.size));have Zd:=ζ (Ze.out.later D.h);have C5:=ζ (show Ro.fA es k [] (l.map (Ro.hl es k))=Ro.fA es k ((l.map (Ro.hl es k)).take (i+1)) ((l.map (Ro.hl es k)).drop (i+1)) by
          rw[pN.out,Ro.drop_cons pK.out,Ro.rX wQ.out (fun hm=>of_decide_eq_false HST.out (Zj.out.1 hm)),Ro.dw pK.out])
         have hsE:=bT.out.size;have uS:=ζ (Ro.dw pK.out);generalize D.val=W2 at*;clear k2 k3;go_wp2_with (at_builtin;refine bB rfl _ _ rfl W2 W0.heap.size _ ((l.map (Ro.hl es k)).take i) (h:Int) Zd.out hsE (by rw[Y7.out,KH.out];omega) rfl rfl ?_;refine aaj ?_);refine ζ ?_;intro v' w' ho' _ _ hb';have Zf:=ζ (show aj w' W0.heap.size v' ((l.map (Ro.hl es k)).take (i+1)) by rw[uS.out];exact ho');have TT:=ζ (bT.out.trans hb');clear ho' hb';go_wp2;go_roundw
         case rel=>exact⟨i+1,by omega,by go_num,C5.out,Zf.out,TT.out⟩
         case measure=>simp[intOf];omega
      .have BN:¬(i:Int)<(p1:Int):=by omega
       obtain rfl:i=p1:=by omega
       have Gv:(l.map (Ro.hl es k)).length=i:=by rw[aaE];exact pI.out
       have rA:=ζ (show Ro.fA es k [] (l.map (Ro.hl es k))=0 by rw[pN.out,abZ (by omega)];rfl);have D8:Hid (aj wr W0.heap.size (.slice ro rl rc) (l.map (Ro.hl es k))):=by
        have:=Tt.out;rw[aaX (by omega)] at this;exact this
       have om:=ζ Gv;have pO:=ζ (qw m ao ca es k wr HEW.out bY.out);obtain⟨dg,sJ⟩:∃dg,dg=Ro.gG es k:=⟨_,rfl⟩;rw[<-sJ] at pO;have KS:=ζ sJ;clear sJ Gv k0 k1 k2 hne;by_cases hd:rl<dg
       .have t2:(rl:Int)<(dg:Int):=by omega
        go_wp2_with (go_at_call 61;refine pO.out.mono ?_;rintro e W ⟨rfl,hbW⟩;refine aaj ?_);refine ζ ?_;have iA:=ζ (aI.out.trans ((HB.out.trans ((fJ.out.trans (hbW.mono hs5)).mono vU)).mono (adE vW)));clear hbW g0 g1;go_wp2
        go_ret3
        refine ke.bad iA.out ?_ (by decide);rw[dI.out,iz.out,Ro.drop_cons ew.out,Ro.eU (Ro.kE rA.out (by rw[om.out,<-KH.out,<-KS.out];exact hd)) (by decide)]
       .have t2:¬(rl:Int)<(dg:Int):=by omega
        have C6:=ζ (show Ro.fU es 0 (Ro.hls es 0 ls)=Ro.fU es (k+1) ((Ro.hls es 0 ls).drop (k+1)) by
         rw[iz.out,Ro.drop_cons ew.out,Ro.wF (Ro.vp rA.out (by rw[om.out,<-KH.out,<-KS.out];exact hd))])
        have uS:=ζ (Ro.dw ew.out);go_wp2_with (go_at_call 61;refine pO.out.mono ?_;rintro e W ⟨rfl,hbW⟩;refine aaj ?_);refine ζ ?_;have iA:=ζ (fJ.out.trans (hbW.mono hs5));have Ze:=ζ (D8.out.later hbW);clear hbW g0 g1;go_wp2_with (at_builtin;refine zy rfl _ _ 50 Tryz.underlying50 rfl W0 W w1.heap.size (.slice uo ql uc) vs ((Ro.hls es 0 ls).take k) (.slice ro rl rc) (l.map (Ro.hl es k)) HR.out iA.out Ze.out vU (by rw[HQL.out];have:=HQL.out;rw[abu] at this;omega) rfl rfl ?_;refine aaj ?_);refine ζ ?_;intro v2 w2 hr2 hb2;have oh:=ζ (show ay w2 w1.heap.size v2 (vs++[.slice ro rl rc]) ((Ro.hls es 0 ls).take (k+1)) by rw[uS.out];exact hr2);have aB:=ζ (HB.out.trans hb2);clear hr2 hb2;go_wp2;go_roundw
        case rel=>exact⟨k+1,_,by omega,by go_num,C6.out,oh.out,aB.out⟩
        case measure=>simp[intOf];omega
    .have aQ:¬(k:Int)<(m:Int):=by omega
     obtain rfl:k=m:=by omega
     have hall:(Ro.hls es 0 ls).length=k:=by rw[uX.out];exact HK.out
     have yl:Hid ((Ro.check (k:Int) es (Ro.hls es 0 ls)).2=0):=by
      show _=_;rw[dI.out,iz.out,abZ (by omega)];rfl
     have pH:=HR.out;rw[aaX (by omega)] at pH;have pH:=ζ (pH.lower (B':=w.heap.size) (by omega));clear hall;go_wp2
     go_ret3
     refine⟨aI.out.trans (HB.out.mono (by omega)),.inr ⟨yl.out,_,vs,rfl,pH.out⟩⟩
  .have j1:((ls.length:Int) != (m:Int))=true:=by simp;omega
   have dI:Hid (Ro.check (m:Int) es (Ro.hls es 0 ls)=(0,110)):=by
    show _=_;unfold Ro.check;rw[if_pos hv,if_pos (by rw[uX.out];omega)]
   clear hv hval hk;go_enter func31,ntmps31;go_wp2_with (go_at_call 25;refine xW.out.mono ?_;rintro e w1 ⟨rfl,hb⟩;refine aaj ?_);refine ζ ?_;have oQ:w1.heap[w.heap.size]? =some (.cells #[.int .i64 (m:Int),.slice ao es.length ca] 24 (0,0)):=(hb.block _ (by simp)).trans (heap_alloc_new w _);obtain⟨g0,g1,-⟩:=af oQ;have aI:=ζ (aH.out.trans (hb.mono aH.out.size));clear hb oQ;go_wp2
   go_ret3
   exact ke.bad aI.out dI.out (by decide)
end
end Go.Proofs.YtdbjpbjocmcpkaaGreatDoor
