import Derived.Test.YtbhdibflpjhpaaaGreatMg47
import Derived.Test.YtbhdibflpjhpaaaGreatMg25
import Derived.Test.YtbhdibflpjhpaaaGreatMg19
set_option maxHeartbeats 16000000
set_option maxRecDepth 100000
namespace Go.Proofs.YtbhdibflpjhpaaaGreat
section
open Go.RowKit Lt
namespace Lt
def told (m:Nat) (d:List Int):List Int:=d++List.replicate (m-d.length) 0
theorem Ri {m:Nat} {d:List Int} (h:d.length<=m):(told m d).length=m:=by unfold told;simp;omega
theorem MX {m:Nat} {d:List Int} (h:d.length<m):told m d=told m (d++[0]):=by
 unfold told;rw[ace,abZ,adb]
 congr 1
 rw[show m-d.length=(m-(d.length+1))+1 by omega,List.replicate_succ];rfl
theorem Rh {m:Nat} {d:List Int} (h:d.length<m) (z:Int):(told m d).set d.length z=told m (d++[z]):=by
 unfold told;rw[ace,abZ,adb,List.set_append_right _ _ (aad _),afL]
 congr 1
 rw[show m-d.length=(m-(d.length+1))+1 by omega,List.replicate_succ];rfl
theorem JY {E:Env} {k:Nat} {h:Int} {hs like turn d res:List Int} (hq:sides E k (h::hs) like turn d=some res):∃b,back? E h=some b/\((b=false/\sides E k hs like turn (d++[0])=some res)\/(b=true/\∃r z,side k like turn (d.length:Int)=some r/\r.2[d.length]? =some z/\sides E k hs r.1 r.2 (d++[z])=some res)):=by
 unfold sides at hq;cases hb:back? E h with
 |none=>rw[hb] at hq;cases hq
 |some b=>
  rw[hb] at hq;cases b with
  |false=>exact⟨false,rfl,.inl ⟨rfl,hq⟩⟩
  |true=>
   dsimp only at hq;cases hr:side k like turn (d.length:Int) with
   |none=>rw[hr] at hq;cases hq
   |some r=>
    obtain⟨l',t'⟩:=r;rw[hr] at hq;dsimp only at hq;cases hz:bF t' (d.length:Int) with
    |none=>rw[hz] at hq;cases hq
    |some z=>
     rw[hz] at hq;obtain⟨k2,e2,q2,p2⟩:=sr hz;obtain rfl:k2=d.length:=by omega
     exact⟨true,rfl,.inr ⟨rfl,(l',t'),z,rfl,p2,hq⟩⟩
theorem TX {k:Nat} {like turn:List Int} {x:Int} {r:List Int×List Int} (h:side k like turn x=some r) (hp:Pm turn):Pm r.2:=by
 obtain⟨ws,-,hb⟩:=zE h;exact Pm.iy (l:=(like,turn)) hp hb
end Lt
section
variable {c:Wp} {p t:Nat} {W0 W:World} {O:Nat->Prop} {st:TS} {L U Z:Nat} {vp vw:Value}
theorem Bp (h:aS c p t W0 O st L U Z vp vw W) (Vb:Pm st.turn) {k:Nat} {res:List Int} (hs:sides c.env k c.s.aT st.like st.turn []=some res):Calls Tryz.prog 36 #[.pointer (some ⟨t,0,none⟩)] W fun e w'=>∃g,e= .returned (.slice (some ⟨g,0,none⟩) c.es.length c.es.length)/\af w' g res/\res.length=c.es.length/\W.heap.size<=g/\Below W0.heap.size W0 w':=by
 obtain⟨i0,hi,hz0,hz1,hz2⟩:=info_parts Tryz.cM;have dH:=h.wk.val.few;have hl:=h.wk.vf.lens;have x0:=h.cells.1;have x5:=h.now.c5;have lG:=ζ h;have XP:=ζ Vb;have HS:=ζ hs;have HL:=ζ hl;clear h Vb hs hl;go_enter Tryz.func36,Tryz.ntmps36;go_wp2_with (at_make;refine wpList_make_full _ rfl _ _ 58 rfl W.heap.size 3 i0 (.int .i64 0) 1 Tryz.underlying58 hi hz0 hz1 _ _ _ _ c.es.length rfl rfl rfl rfl (by rw[hz2];omega) (by unfold maxLen;omega) (aad _) ?_;refine abQ ?_);refine ζ ?_;intro w2 hrow hg2;rw[dD] at hrow;have hik:=eu hrow;have hb2:Below W.heap.size W w2:=(aae _ _).grown hg2 (aad _) (fun j hj=>by cases hj);have iM:Hid (af w2 W.heap.size (told c.es.length [])):=by
  have e:told c.es.length []=List.replicate c.es.length 0:=by unfold told;simp
  rw[e];exact hik
 have BP:=lG.out.later hb2;have y0:=BP.cells.1;have y5:=BP.now.c5;have HT2:=ζ BP;have cj:=ζ hb2;clear hrow hg2 hik hb2 BP x0 x5;go_wp2_with fail;go_loopw [25] (fun iv wr=>∃(i:Nat) (l u d:List Int),iv= .int .i64 (i:Int)/\i<=c.es.length/\d.length=i/\aS c p t W0 O { st with like:=l,turn:=u } L U Z vp vw wr/\Pm u/\af wr W.heap.size (told c.es.length d)/\sides c.env k (c.s.aT.drop i) l u d=some res) (fun iv _=>c.es.length-(intOf iv).toNat)
 case atStart=>exact⟨0,_,_,[],rfl,ab6 _,rfl,HT2.out,XP.out,iM.out,HS.out⟩
 case round=>
  obtain⟨i,l,u,d,rfl,BG,hd,hT,DW,hId,aQ⟩:=hrel;by_cases hlt:i<c.es.length
  .have hw0:=lG.out.wk
   obtain⟨h1,-,h3,h4⟩:=Lo.fQ hw0.vf hlt;obtain⟨q,hq⟩:∃q,Lo.oh c.s i=q:=⟨_,rfl⟩;rw[hq] at h1 h3 h4;have hsp:c.s.aT.drop i=(q:Int)::c.s.aT.drop (i+1):=by
    have hlt':i<c.s.aT.length:=by rw[HL.out.2.2.2];exact hlt
    rw[adj hlt']
    congr 1
    rw[<-h1];unfold Df.at_;simp[hlt']
   rw[hsp] at aQ;obtain⟨b,hb,hca⟩:=JY aQ;have hbk:b=decide (Df.at_ c.s.par (Cs.to c.es q)≠(q:Int)):=by
    unfold back? at hb;rw[(nO hw0.val h3).2] at hb;dsimp only[Option.bind_some] at hb;rw[at_at (l:=c.env.par) (v:=Cs.to c.es q) (by show _<c.s.par.length;rw[HL.out.1];exact(Cs.bI hw0.val h3).2)] at hb;exact(aal hb).symm
   have zk:=ζ (Cv hT.now h3);rw[<-hbk] at zk;obtain⟨bo,oo,eo,tT⟩:=hT.now.aT hlt;have z0:=hT.cells.1;have z1:=tT wr (aae _ _) i hlt;rw[h1] at z1;rw[eo];have i0:(0:Int)<=(i:Int):=by omega
   have i1:(i:Int)<(c.es.length:Int):=by omega
   have i2:(i:Int)+1<=4194304:=by omega
   have HX:Hid (∀V,Below wr.heap.size wr V->V.cell? ⟨t,0,none⟩=some (.pointer (some ⟨p,0,none⟩))):=fun V hV=>(hT.later hV).cells.1
   have HT:=ζ hT;have HID:=ζ hId;have hPO:¬O W.heap.size:=fun ho=>by have:=lG.out.oX _ ho;omega
   rcases hca with ⟨rfl,jd⟩|⟨rfl,r,z,hr,hz,jd⟩
   .have pS:Hid (∀V,Below wr.heap.size wr V->∃(l u d:List Int),d.length=i+1/\aS c p t W0 O { st with like:=l,turn:=u } L U Z vp vw V/\Pm u/\af V W.heap.size (told c.es.length d)/\sides c.env k (c.s.aT.drop (i+1)) l u d=some res):=fun V hV=>by
     refine⟨l,u,d++[0],by simp[hd],HT.out.later hV,DW,?_,jd⟩;rw[<-MX (by omega)];exact HID.out.later hV
    clear hT DW hId aQ hd h1 hq hsp hb hbk tT eo jd;go_wp2_with (go_at_call 54;refine zk.out.mono ?_;rintro e1 w1 ⟨rfl,hb1⟩;have aY:=ζ hb1;clear hb1);go_roundw
    case rel=>
     obtain⟨l,u,d,k1,k2,k3,k4,k5⟩:=pS.out _ aY.out;exact⟨i+1,l,u,d,by simp,by omega,k1,k2,k3,k4,k5⟩
    case measure=>
     simp[intOf];omega
   .have HSI:Hid (∀V,Below wr.heap.size wr V->Calls Tryz.prog 55 #[.pointer (some ⟨t,1,none⟩),.int .i64 (i:Int)] V (uy c p t W0 O { st with like:=l,turn:=u } L U Z vp vw V r i)):=fun V hV=>by
     rw[<-hd];rw[<-hd] at hlt;exact MU (HT.out.later hV) DW hlt hr
    have pS:Hid (∀V,aS c p t W0 O { st with like:=r.1,turn:=r.2 } L U Z vp vw V->af V W.heap.size (told c.es.length (d++[z]))->∃(l u d:List Int),d.length=i+1/\aS c p t W0 O { st with like:=l,turn:=u } L U Z vp vw V/\Pm u/\af V W.heap.size (told c.es.length d)/\sides c.env k (c.s.aT.drop (i+1)) l u d=some res):=fun V k1 k2=>
     ⟨r.1,r.2,d++[z],by simp[hd],k1,TX hr DW,k2,jd⟩
    have HZ:Hid (r.2[i]? =some z):=by rw[hd] at hz;exact hz
    have ET:Hid ((told c.es.length d).set i z=told c.es.length (d++[z])):=by
     have:=Rh (m:=c.es.length) (d:=d) (by omega) z;rw[hd] at this;exact this
    have HTL:Hid ((told c.es.length d).length=c.es.length):=Ri (by omega);have hLU:W.heap.size≠L/\W.heap.size≠U:=by
     have:=lG.out.oX _ lG.out.oL;have:=lG.out.oX _ lG.out.oU;omega
    clear hT DW hId aQ hd h1 hq hsp hb hbk tT eo jd hr hz;go_wp2_with (go_at_call 54;refine zk.out.mono ?_;rintro e1 w1 ⟨rfl,hb1⟩;have aY:=ζ hb1;clear hb1);go_at_call 55;refine(HSI.out _ aY.out).mono ?_;rintro e2 w3 ⟨⟨z',hz',rfl⟩,⟨hk3,hs3⟩,hT3⟩;have hzz:=HZ.out;rw[hz'] at hzz;obtain rfl:=aal hzz;have Oz:af w3 W.heap.size (told c.es.length d):=hk3.2 _ _ (HID.out.later aY.out) rfl (fun q=>q.elim hLU.1 hLU.2);obtain⟨zo,hzo⟩:∃zo,(told c.es.length d)[i]? =some zo:=⟨_,aac (by rw[HTL.out];exact hlt)⟩;have y1:w3.cell? ⟨W.heap.size,i,none⟩=some (.int .i64 zo):=Oz.cell hzo;have y2:w3.frozen? ⟨W.heap.size,i,none⟩=false:=Oz.free i;have ZT:=ζ (hT3.far hPO lG.out.aZ.size (i:=i) (.int .i64 z'));have EY:Hid (af (w3.setCell ⟨W.heap.size,i,none⟩ (.int .i64 z')) W.heap.size (told c.es.length (d++[z']))):=by
     rw[<-ET.out];exact Oz.set i _
    clear hk3 hs3 hT3 Oz hzo hzz hz';simp only[];go_wp2_with fail;go_roundw
    case rel=>
     obtain⟨l,u,d,k1,k2,k3,k4,k5⟩:=pS.out _ ZT.out EY.out;exact⟨i+1,l,u,d,by simp,by omega,k1,k2,k3,k4,k5⟩
    case measure=>
     simp[intOf];omega
  .obtain rfl:i=c.es.length:=by omega
   have hdr:res=d:=by
    rw[aeB (by rw[HL.out.2.2.2];exact aad _)] at aQ;exact(aal aQ).symm
   subst hdr;have HID:Hid (af wr W.heap.size res):=by
    have e:told c.es.length res=res:=by unfold told;rw[hd,afL];simp
    rw[e] at hId;exact hId
   have HD:=ζ hd;have HB:=ζ hT.aZ;clear hT DW hId aQ hd;go_wp2_with fail;go_ret;exact⟨_,rfl,HID.out,HD.out,aad _,HB.out⟩
end
end
section
open Go.RowKit Lt Pl
namespace Lt
section
variable {n m:Nat} {T:DF n m} {E:Env} {oe:Nat->List Nat} {hf:Nat->Int}
theorem wN:Inv T E oe (start m) (fun _=>False) [] []:=by
 refine⟨⟨by simp[start],by simp[start],fun p hp=>by simp[flat] at hp,by simp[flat,cF],fun x hx=>by simp[flat,cF] at hx,fun x hx=>by simp[cE] at hx,fun x hx _=>⟨OH hx,OH hx⟩,fun x hx=> .inl (OH hx),fun x hx=>by simp[cE] at hx,fun x hx=>by simp[cE] at hx⟩,rfl,by simp[start],trivial,afr,fun e=>by simp,fun v hv=> ?_,afr,fun l hl=>by simp at hl,fun e he=>by simp at he,fun v hv=>hv.elim,fun a _ _ hv=>hv.elim⟩;rcases hv with hv|⟨l,hl,_⟩
 .exact hv.elim
 .simp at hl
theorem MV (hE:dU T E oe hf) {N:Nat} (hN:2*m+1<=N) {st':TS}:∀{l:List Int} {st:TS} {fin:Nat->Prop} {G:List Nat},Inv T E oe st fin G []->(∀x∈l,∃v:Nat,v<n/\x=(v:Int))->l.Nodup->(∀u:Nat,Root T u->(u:Int)∈l->¬fin u)->trees E N l st=some (some st')->∃fin' G',Inv T E oe st' fin' G' []:=by
 intro l
 induction l with
 |nil=>
  intro st fin G h _ _ _ ht;cases ht;exact⟨fin,G,h⟩
 |cons x l ih=>
  intro st fin G h hx hnd hro ht;obtain⟨v,hv,rfl⟩:=hx x aai;have hx':∀x∈l,∃v:Nat,v<n/\x=(v:Int):=fun y hy=>hx y (aak _ hy)
  have aaR:=(acr.1 hnd).2;rcases FD hE hN h hv hnd hro ht with ⟨y,_,_,q⟩|⟨_,_,q⟩
  .exact ih h hx' aaR (fun u hu hm=>hro u hu (aak _ hm)) q
  .rcases q with ⟨_,q⟩|⟨fX,uh,G1,_,q2,q3,q4⟩
   .cases q
   .exact ih q2 hx' aaR q4 q3
theorem Rm (hE:dU T E oe hf) (wC:∀x∈E.ord,∃v:Nat,v<n/\x=(v:Int)) (hnd:E.ord.Nodup) (hall:∀v:Nat,v<n->(v:Int)∈E.ord) (agC:E.aT=(List.range m).map hf):
 ∃r,(∃k0,∀k,k0<=k->test E k m=some r)/\((r=none/\∀sd,¬T.LR sd)\/∃sd,r=some ((List.range m).map (m8 T sd))/\T.LR sd/\T.Aligned sd):=by
 have hstart:Inv T E oe (start m) (fun _=>False) [] []:=wN;have Vl:∀(L:List Int) (N d:Nat) (st:TS) (r:Option TS),trees E N L st=some r->trees E (N+d) L st=some r:=by
  intro L
  induction L with
  |nil=>exact fun N d st r h=>h
  |cons x L ih=>
   intro N d st r h;unfold trees at h ⊢;cases hp:bF E.par x with
   |none=>rw[hp] at h;cases h
   |some p=>
    rw[hp] at h;dsimp only at h ⊢;by_cases e:p= -1
    .rw[if_pos e] at h ⊢
     cases hr:run E N (enter st x) with
     |none=>rw[hr] at h;cases h
     |some q=>
      rw[Rw N _ hr d];rw[hr] at h;cases q with
      |none=>exact h
      |some pV=>exact ih N d pV r h
    .rw[if_neg e] at h ⊢
     exact ih N d st r h
 rcases JL hE (aad (2*m+1)) E.ord hstart wC hnd (fun _ _ _ q=>q) with q|⟨st',fin',G',q1,q2,_,q4⟩
 .refine⟨none,⟨2*m+1,fun k hk=> ?_⟩,.inl ⟨rfl,q.2⟩⟩
  unfold test;rw[show k=(2*m+1)+(k-(2*m+1)) by omega,Vl E.ord _ _ _ _ q.1]
 .have Qy:=Xc q2 fun v hv hr=>q4 v hr (hall v hv)
  have hG:∀e,e<m->e∈G':=fun e he=>(q2.gi e).2 ⟨he,.inl (Qy _ (T.lt e he).1)⟩
  have hlk:Lk m st'.like st'.turn (cE T G') []:=q2.lk;obtain⟨sd,aQ⟩:=hlk.sat;obtain⟨K,hK⟩:=Ng hlk.res m;refine⟨_,⟨2*m+1+K,fun k hk=> ?_⟩,.inr ⟨sd,rfl,⟨?_,?_⟩,?_⟩⟩
  .unfold test
   rw[show k=(2*m+1)+(k-(2*m+1)) by omega,Vl E.ord _ _ _ _ q1];dsimp only;have hs:=Rq (K:=(2*m+1)+(k-(2*m+1))) hE (fun e he te=>(⟨hG e he,te⟩:cE T G' e)) hlk.sm 0 m st'.like st'.turn (by omega) hlk.ll hlk.lt aQ hlk.tn hlk.cl (fun x hx sx=>by
    obtain⟨d,r,k1,k2⟩:=hK x hx sx;exact⟨d,r,by omega,k2⟩)
   rw[agC,List.range_eq_range',show([]:List Int)=(List.range 0).map (m8 T sd) from rfl];rw[hs,List.range_eq_range'];rfl
  .intro e f b c he hf' hne hfr rb rc ab ac
   exact(q2.r1 (T.fr e) (Qy _ (T.lt e he).1) e f he hf' rfl hfr.symm hne sd aQ).1 b c rb rc ab ac
  .intro e f b c he hf' hne hfr rb ab rc ac
   exact(q2.r1 (T.fr e) (Qy _ (T.lt e he).1) e f he hf' rfl hfr.symm hne sd aQ).2.2 b c rb ab rc ac
  .intro e b c he te hb hc
   exact q2.r2 e he te (Qy _ (T.lt e he).2) sd aQ b c hb hc
end
end Lt
noncomputable def WM (n:Nat) (es:List (Int×Int)) (s:Df.St):Env:=Wp.env ⟨n,es,s,none,0,⟨none,none,none,none,0,0,0,0⟩,undef,undef,undef,undef,[]⟩
def kX (n:Nat) (es:List (Int×Int)) (s:Df.St) (r:Option (List Int)):Prop:=∃k0,∀k,k0<=k->Lt.test (WM n es s) k es.length=some r
theorem kX.unique {n:Nat} {es:List (Int×Int)} {s:Df.St} {r r':Option (List Int)} (h:kX n es s r) (h':kX n es s r'):r=r':=by
 obtain⟨a,ha⟩:=h;obtain⟨b,hb⟩:=h';have h1:=ha (a+b) (by omega);rw[hb (a+b) (by omega)] at h1;exact(aal h1).symm
theorem kX.ex {n:Nat} {es:List (Int×Int)} {s:Df.St} (hv:Si.Val n es) (h:Df.VF n es s):∃r,kX n es s r/\((r=none/\∀sd,¬(Lr.df hv h).LR sd)\/∃sd,r=some ((List.range es.length).map (m8 (Lr.df hv h) sd))/\(Lr.df hv h).LR sd/\(Lr.df hv h).Aligned sd):=by
 obtain⟨c,hc,e1,e2,e3⟩:∃c:Wp,WM n es s=c.env/\c.n=n/\c.es=es/\c.s=s:=⟨_,rfl,rfl,rfl,rfl⟩;subst e1;subst e2;subst e3;unfold kX;rw[hc];exact Rm (Wp.WL hv h) (Wp.Ic h) (Wp.Ib h) (Wp.Ue h) (Wp.YH h)
end
section
open Go.RowKit Lt Pl
def S6 (n:Int) (es:List (Int×Int)) (w:World) (e:Ending) (w':World):Prop:=
 ((Si.valid n es=false/\e= .returned (.tuple #[.slice none 0 0,.bool false,.int .i64 1]))\/
   ∃(m:Nat) (s:Df.St) (r:Option (List Int)),n=(m:Int)/\Si.Val m es/\Df.Wk m es m s/\kX m es s r/\
    ((r=none/\e= .returned (.tuple #[.slice none 0 0,.bool false,.int .i64 0]))\/∃l g,r=some l/\l.length=es.length/\e= .returned (.tuple #[.slice (some ⟨g,0,none⟩) es.length es.length,.bool true,.int .i64 0])/\af w' g l/\w.heap.size<=g))/\
 Below w.heap.size w w'
theorem NC (n:Int) (ao:Option Addr) (cap:Nat) (es:List (Int×Int)) (w:World) (he:aN w ao es) (hl:es.length<=4611686018427387904):
 Calls Tryz.prog 20 #[.agg #[.int .i64 n,.slice ao es.length cap]] w (S6 n es w):=by
 obtain⟨W,hW⟩:∃W,W=w.alloc (.cells #[.int .i64 n,.slice ao es.length cap] 24):=⟨_,rfl⟩;have hB0:Below w.heap.size w W:=by rw[hW];exact(aae _ _).alloc (aad _) _
 have g1:W.heap[w.heap.size]? =some (.cells #[.int .i64 n,.slice ao es.length cap] 24 (0,0)):=by rw[hW];exact heap_alloc_new w _
 have hs0:W.heap.size=w.heap.size+1:=by rw[hW];simp
 have HC:=ζ (OQ n ao cap es W (he.later hB0) hl);unfold cH at HC;obtain⟨x0,x1,-⟩:=aj g1;have HW:=ζ hW;have fo:=ζ hB0;have mY:=ζ g1;have HE:=ζ (he.later hB0);have Pb:=ζ hs0;clear hB0 g1 he hs0;rw[hW] at x0 x1 HC;clear hW;go_enter Tryz.func20,Tryz.ntmps20;go_wp2_with fail;go_at_call 32;refine HC.out.mono ?_;rw[<-HW.out];rintro e w1 ⟨v1,v2,v3,v4,s,z,rfl,hown,gD,hb1⟩;have hlen:s.par.length<=17592186043904/\s.ay.length<=17592186043904/\s.ord.length<=17592186043904/\s.aT.length<=17592186043904:=by
  rcases gD with ⟨m,rfl,hv,hwk,-⟩|⟨-,rfl,-⟩
  .obtain⟨l1,l2,l3,l4⟩:=(hwk.vf hv).lens
   have:=hv.hi;have:=hv.few;omega
  .simp
 obtain⟨f,rfl,rfl,rfl,rfl,hF⟩:=hown.bT hlen;obtain⟨Y,hY⟩:∃Y,Y=w1.alloc (.cells #[.slice f.a1 s.par.length f.c1,.slice f.a2 s.ay.length f.c2,.slice f.a3 s.ord.length f.c3,.slice f.a4 s.aT.length f.c4] 79):=⟨_,rfl⟩;have Fl:Below w1.heap.size w1 Y:=by rw[hY];exact(aae _ _).alloc (aad _) _
 have f1:Y.heap[w1.heap.size]? =some (.cells #[.slice f.a1 s.par.length f.c1,.slice f.a2 s.ay.length f.c2,.slice f.a3 s.ord.length f.c3,.slice f.a4 s.aT.length f.c4] 79 (0,0)):=by rw[hY];exact heap_alloc_new w1 _
 have Lg:Below W.heap.size W Y:=hb1.trans (Fl.mono hb1.size);have HBY:Hid (Below w.heap.size w Y):=fo.out.trans (Lg.mono fo.out.size);have k1:=(Lg.block _ (lt_of_block mY.out)).trans mY.out;obtain⟨y0,y1,-⟩:=aj k1;obtain⟨u0,u1,u2,u3,-⟩:=ah f1;have HFY:=ζ (hF.later Fl);have HEY:=ζ (HE.out.later Lg);have HY:=ζ hY;rw[hY] at y0 y1 u0 u1 u2 u3;have HSY:=ζ Lg.size;clear hown hF hlen hY Fl f1 k1 hb1 Lg x0 x1 HC;rcases gD with ⟨m,rfl,hv,hwk,rfl⟩|⟨hv,-,rfl⟩
 .have HV:=ζ hv
  have sI:=ζ hwk;have Mi:=ζ (ND (m:Int) ao cap es f s Y HEY.out hl HFY.out);unfold For.val at Mi;rw[HY.out] at Mi;clear hv hwk;simp only[];go_wp2_with fail;go_at_call 33;refine Mi.out.mono ?_;rw[<-HY.out];intro e1 w3 hrd;obtain⟨c,p,hc1,rfl,rfl,hc4,hc5,hc6,rfl,hpl,KP,hb3⟩:∃(c:Wp) (p:Nat),(m:Int)=(c.n:Int)/\c.es=es/\c.s=s/\c.ao=ao/\c.ca=cap/\c.f=f/\e1= .returned (.tuple #[.pointer (some ⟨p,0,none⟩),.int .i64 0])/\Y.heap.size<=p/\dG c p w3/\Below Y.heap.size Y w3:=by
   rcases hrd with ⟨q,_⟩|⟨_,q,_⟩|q
   .rw[Si.bQ.2 HV.out] at q
    cases q
   .exact absurd ⟨m,rfl,HV.out,sI.out.vf HV.out⟩ q
   .exact q
  obtain rfl:m=c.n:=by omega
  have IB:=KP.vf;obtain⟨r,UW,-⟩:=kX.ex KP.val IB;have Fw:=ζ UW;obtain⟨k0,hk0⟩:=UW;obtain⟨k,hk1,hk2⟩:∃k,k0<=k/\2*c.es.length+1<=k:=⟨k0+(2*c.es.length+1),by omega,by omega⟩;have vT:Lt.test c.env k c.es.length=some r:=hk0 k hk1;have HNT:=ζ (Dp KP);have Me:=ζ KP;have cz:Hid (Below w.heap.size w w3):=HBY.out.trans (hb3.mono HBY.out.size);have HTK:=ζ vT;have Mf:=ζ IB;have FA:=ζ (Wp.WL Me.out.val Mf.out);clear hrd hk0 hk1 hc1 hc4 hc5 hc6 hb3 vT IB KP hpl Mi;simp only[];go_wp2_with fail;go_at_call 34;refine HNT.out.mono ?_;rintro e2 w4 ⟨t,L,U,Z,rfl,hT⟩;have HT:=ζ hT;have hst:∃q,trees c.env k c.s.ord (Lt.start c.es.length)=some q/\((q=none/\r=none)\/∃st l,q=some st/\r=some l/\sides c.env k c.s.aT st.like st.turn []=some l):=by
   have h1:=HTK.out;unfold Lt.test at h1;cases hq:trees c.env k c.env.ord (Lt.start c.es.length) with
   |none=>rw[hq] at h1;cases h1
   |some q=>
    rw[hq] at h1;cases q with
    |none=>exact⟨none,hq,.inl ⟨rfl,(aal h1).symm⟩⟩
    |some st=>
     dsimp only at h1;cases hs:sides c.env k c.env.aT st.like st.turn [] with
     |none=>rw[hs] at h1;cases h1
     |some l=>
      rw[hs] at h1;exact⟨some st,hq,.inr ⟨st,l,rfl,(aal h1).symm,hs⟩⟩
  obtain⟨q,zW,BC⟩:=hst;have HTT:=ζ (MT FA.out hT wN hk2 (Wp.Ic Mf.out) (Wp.Ib Mf.out) (fun _ _ _ q=>q) zW);have iE:Hid (∀V,Below w3.heap.size w3 V->Below w.heap.size w V):=fun V hV=>cz.out.trans (hV.mono cz.out.size)
  have UX:=cz.out.size;rcases BC with ⟨rfl,rfl⟩|⟨st,l,rfl,rfl,YY⟩
  .clear hT zW
   simp only[];go_wp2_with (go_at_call 35;refine HTT.out.mono ?_;rintro e3 w5 ⟨st',rfl,Vd⟩;have Z0:=ζ Vd;clear Vd)
   go_ret3
   obtain⟨-,L',U',Z',sZ,vO,h5⟩:=Z0.out;exact⟨.inr ⟨c.n,c.s,none,rfl,Me.out.val,sI.out,Fw.out,.inl ⟨rfl,rfl⟩⟩,iE.out _ h5.aZ⟩
  .obtain⟨fin',G',hI⟩:=MV FA.out hk2 (wN (T:=Lr.df Me.out.val Mf.out) (E:=c.env) (oe:=c.oe)) (Wp.Ic Mf.out) (Wp.Ib Mf.out) (fun _ _ _ q=>q) zW
   have XP:Hid (Pm st.turn):=fun z x hz=>by
    have hzl:=(aaf.1 hz).1;rw[hI.lk.lt] at hzl;have:=hI.lk.tn z hzl;unfold g at this;rw[hz] at this;exact this
   have HSL:=ζ YY;clear hT zW YY hI;simp only[];go_wp2_with (go_at_call 35;refine HTT.out.mono ?_;rintro e3 w5 ⟨rfl,Vd⟩;have Z0:=ζ Vd;clear Vd);have hPA:Calls Tryz.prog 36 #[.pointer (some ⟨t,0,none⟩)] w5 fun e w'=>∃g,e= .returned (.slice (some ⟨g,0,none⟩) c.es.length c.es.length)/\af w' g l/\l.length=c.es.length/\w5.heap.size<=g/\Below w3.heap.size w3 w':=by
    obtain⟨-,L',U',Z',sZ,vO,h5⟩:=Z0.out;exact Bp h5 XP.out HSL.out
   have HPA:=ζ hPA;clear hPA;go_at_call 36;refine HPA.out.mono ?_;rintro e6 w6 ⟨g6,rfl,hi6,IJ,hg6,eC⟩;have HI6:=ζ hi6;have HL6:=ζ IJ;have oN:=ζ eC;have HG6:Hid (w.heap.size<=g6):=by
    obtain⟨-,L',U',Z',sZ,vO,h5⟩:=Z0.out;have:=h5.aZ.size;show _<=_;omega
   clear hi6 IJ hg6 eC;simp only[];go_wp2_with fail
   go_ret3
   exact⟨.inr ⟨c.n,c.s,some l,rfl,Me.out.val,sI.out,Fw.out,.inr ⟨l,g6,rfl,HL6.out,rfl,HI6.out,HG6.out⟩⟩,iE.out _ oN.out⟩
 .have HV:=ζ hv
  clear hv y0 y1 u0 u1 u2 u3;simp only[];go_wp2_with fail
  go_ret3
  refine⟨.inl ⟨HV.out,rfl⟩,?_⟩;have:=HBY.out;rw[HY.out] at this;exact this
end
section
open Go.RowKit Lt Pl
def Ma (n:Int) (es:List (Int×Int)) (w:World) (e:Ending) (w':World):Prop:=
 ((Si.valid n es=false/\e= .returned (.tuple #[.bool false,.int .i64 1]))\/
   ∃(m:Nat) (s:Df.St) (r:Option (List Int)),n=(m:Int)/\Si.Val m es/\Df.Wk m es m s/\kX m es s r/\e= .returned (.tuple #[.bool r.isSome,.int .i64 0]))/\
 Below w.heap.size w w'
theorem Im (n:Int) (ao:Option Addr) (cap:Nat) (es:List (Int×Int)) (w:World) (he:aN w ao es) (hl:es.length<=4611686018427387904):
 Calls Tryz.prog 7 #[.agg #[.int .i64 n,.slice ao es.length cap]] w (Ma n es w):=by
 obtain⟨W,hW⟩:∃W,W=w.alloc (.cells #[.int .i64 n,.slice ao es.length cap] 24):=⟨_,rfl⟩;have hB0:Below w.heap.size w W:=by rw[hW];exact(aae _ _).alloc (aad _) _
 have g1:W.heap[w.heap.size]? =some (.cells #[.int .i64 n,.slice ao es.length cap] 24 (0,0)):=by rw[hW];exact heap_alloc_new w _
 have HC:=ζ (NC n ao cap es W (he.later hB0) hl);obtain⟨x0,x1,-⟩:=aj g1;have HW:=ζ hW;have fo:=ζ hB0;clear hB0 g1 he;rw[hW] at x0 x1 HC;clear hW;go_enter Tryz.func7,Tryz.ntmps7;go_wp2_with fail;go_at_call 20;refine HC.out.mono ?_;rw[<-HW.out];rintro e w1 ⟨gD,hb1⟩;have aY:Hid (Below w.heap.size w w1):=fo.out.trans (hb1.mono fo.out.size);clear hb1 x0 x1 HC;rcases gD with ⟨hv,rfl⟩|⟨m,s,r,hn,hv,hwk,BB,⟨rfl,rfl⟩|⟨l,g6,rfl,-,rfl,-,-⟩⟩
 .simp only[]
  go_wp2_with fail;go_ret2;exact⟨.inl ⟨hv,rfl⟩,aY.out⟩
 .have H:=ζ (And.intro hn (And.intro hv (And.intro hwk BB)))
  clear hn hv hwk BB;simp only[];go_wp2_with fail;go_ret2;obtain⟨hn,hv,hwk,BB⟩:=H.out;exact⟨.inr ⟨m,s,none,hn,hv,hwk,BB,rfl⟩,aY.out⟩
 .have H:=ζ (And.intro hn (And.intro hv (And.intro hwk BB)))
  clear hn hv hwk BB;simp only[];go_wp2_with fail;go_ret2;obtain⟨hn,hv,hwk,BB⟩:=H.out;exact⟨.inr ⟨m,s,some l,hn,hv,hwk,BB,rfl⟩,aY.out⟩
end
section
open Go.RowKit Lt Pl
theorem FL {m:Nat} {es:List (Int×Int)} {s:Df.St} {r:Option (List Int)} (hv:Si.Val m es) (hw:Df.Wk m es m s) (ht:kX m es s r):r.isSome=true↔fD es.length (fun e=>Cs.fr es (2*e)) (fun e=>Cs.to es (2*e)):=by
 have hf:=hw.vf hv;obtain⟨r',h1,h2⟩:=kX.ex hv hf;obtain rfl:=ht.unique h1;have hT:fD es.length (Lr.df hv hf).fr (Lr.df hv hf).go↔fD es.length (fun e=>Cs.fr es (2*e)) (fun e=>Cs.to es (2*e)):=by
  have he:∀e,e<es.length->((Lr.df hv hf).fr e=Cs.fr es (2*e)/\(Lr.df hv hf).go e=Cs.to es (2*e))\/((Lr.df hv hf).fr e=Cs.to es (2*e)/\(Lr.df hv hf).go e=Cs.fr es (2*e)):=fun e he=>Lo.Ad hf he
  refine⟨fun h=>h.of (fun i=>i) (fun v=>v) (fun _ h=>h) (fun _ _ _ _ h=>h) he fun _ _ _ _ h=>h,fun h=>h.of (fun i=>i) (fun v=>v) (fun _ h=>h) (fun _ _ _ _ h=>h) (fun e hem=> ?_) fun _ _ _ _ h=>h⟩;rcases he e hem with ⟨a,b⟩|⟨a,b⟩
  .exact .inl ⟨a.symm,b.symm⟩
  .exact .inr ⟨b.symm,a.symm⟩
 rw[<-hT,DF.T9];rcases h2 with ⟨rfl,h3⟩|⟨sd,rfl,h3,h4⟩
 .constructor
  .intro h
   cases h
  .rintro⟨sd,h,_⟩
   exact absurd h (h3 sd)
 .exact⟨fun _=>⟨sd,h3,h4⟩,fun _=>rfl⟩
open Classical in
noncomputable def Dc (n:Int) (es:List (Int×Int)):Bool:=decide (Si.Val n es/\fD es.length (fun e=>Cs.fr es (2*e)) (fun e=>Cs.to es (2*e)))
open Classical in
theorem YD {n:Int} {es:List (Int×Int)} (h:¬fD es.length (fun e=>Cs.fr es (2*e)) (fun e=>Cs.to es (2*e))):Dc n es=false:=by
 unfold Dc;exact decide_eq_false (fun k=>h k.2)
open Classical in
theorem Ua {n:Int} {es:List (Int×Int)} (hv:Si.Val n es) (h:fD es.length (fun e=>Cs.fr es (2*e)) (fun e=>Cs.to es (2*e))):Dc n es=true:=by
 unfold Dc;exact decide_eq_true (And.intro hv h)
open Classical in
theorem Db (n:Int) (ao:Option Addr) (cap:Nat) (es:List (Int×Int)) (w:World) (he:aN w ao es) (hl:es.length<=4611686018427387904):
 Calls Tryz.prog 7 #[.agg #[.int .i64 n,.slice ao es.length cap]] w fun e w'=>e= .returned (.tuple #[.bool (Dc n es),.int .i64 (if Si.valid n es then 0 else 1)])/\Below w.heap.size w w':=by
 refine(Im n ao cap es w he hl).mono ?_;rintro e w' ⟨hc,hb⟩;refine⟨?_,hb⟩;rcases hc with ⟨hv,rfl⟩|⟨m,s,r,rfl,hv,hwk,BB,rfl⟩
 .have h1:¬Si.Val n es:=fun h=>by rw[Si.bQ.2 h] at hv;cases hv
  have h2:Dc n es=false:=by
   unfold Dc;exact decide_eq_false (fun h=>h1 h.1)
  rw[h2,hv];rfl
 .have h2:Dc m es=r.isSome:=by
   unfold Dc;by_cases h:fD es.length (fun e=>Cs.fr es (2*e)) (fun e=>Cs.to es (2*e))
   .rw[(FL hv hwk BB).2 h]
    exact decide_eq_true (And.intro hv h)
   .have:r.isSome=false:=afH.2 fun k=>h ((FL hv hwk BB).1 k)
    rw[this];exact decide_eq_false (fun k=>h k.2)
  rw[h2,Si.bQ.2 hv];rfl
end
section
open Go.RowKit Go.Sort
theorem abP {U:World} {o:Oper} {a:Act} {K:Act->World->Prop} {Q:Exit->Act->World->Prop} (s x:Operand) (ho:o.op= .call { callee:= .builtin .append,args:= #[s,x],argTypes:= #[22,22] })
 (B:Nat) (v:Value) (l:List (Int×Int)) (y z:Int) (hR:dW U B v l) (hB:B<=U.heap.size) (hs:a.eval s=v) (g:Nat) (hx:a.eval x= .slice (some ⟨g,0,none⟩) 1 1) (hg:U.heap[g]? =some (.cells #[.int .i64 y,.int .i64 z] 38 (0,0)))
 (hl:l.length<=8796093022000) (h:∀v' w',dW w' B v' (l++[(y,z)])->U.grownBy w' v.ownBlock->(v'.ownBlock=v.ownBlock\/v'.ownBlock=some U.heap.size)->K (a.put o.dst v') w'):o.wp Tryz.prog a U K Q:=by
 obtain⟨i1,hi1,hy0,hy1,hy2⟩:=info_parts Tryz.vA;obtain⟨v',w',hr,h2,h3,_,h5⟩:=run_append_own_at (P:=Tryz.prog) U B 22 o.type 38 i1 (.agg #[.int .i64 0,.int .i64 0]) 2 16 Tryz.underlying22 hi1 hy0 hy1 hy2 rfl (by decide) v l.length (kU l) hR ⟨g,0,none⟩ 1 1 [.int .i64 y,.int .i64 z] rfl (aek hg) (by simp[Value.oneCell']) (by unfold maxLen;omega) (by omega) hB;unfold Oper.wp execOp;simp only[ho,resolve,invoke,builtin,aeQ,aeR,ad7,aei,ac6,aeT,hs,hx,hr];refine h v' w' ?_ h3 h5;unfold dW;rw[mS,abZ];exact h2
theorem Nd {U:World} (B:Nat) (v:Value) (l:List (Int×Int)) (y z:Int) (hR:dW U B v l) (hB:B<=U.heap.size) (g:Nat) (hg:U.heap[g]? =some (.cells #[.int .i64 y,.int .i64 z] 38 (0,0))) (hl:l.length<=8796093022000):
 ∃v' w',(∀(o:Oper) (ev:Operand->Value) (s x:Operand),o.op= .call { callee:= .builtin .append,args:= #[s,x],argTypes:= #[22,22] }->o.type=22->ev s=v->ev x= .slice (some ⟨g,0,none⟩) 1 1->(execOp ev o).run Tryz.prog U= .ok (.value v') w')/\dW w' B v' (l++[(y,z)])/\U.grownBy w' v.ownBlock:=by
 obtain⟨i1,hi1,hy0,hy1,hy2⟩:=info_parts Tryz.vA;obtain⟨v',w',hr,h2,h3,_,h5⟩:=run_append_own_at (P:=Tryz.prog) U B 22 22 38 i1 (.agg #[.int .i64 0,.int .i64 0]) 2 16 Tryz.underlying22 hi1 hy0 hy1 hy2 rfl (by decide) v l.length (kU l) hR ⟨g,0,none⟩ 1 1 [.int .i64 y,.int .i64 z] rfl (aek hg) (by simp[Value.oneCell']) (by unfold maxLen;omega) (by omega) hB;refine⟨v',w',fun o ev s x ho ht hs hx=> ?_,?_,h3⟩
 .unfold execOp
  simp only[ho,ht,resolve,invoke,builtin,aeQ,aeR,ad7,aei,ac6,aeT,hs,hx,hr]
 .unfold dW
  rw[mS,abZ];exact h2
end
section
open Go.RowKit Go.Sort
structure lK (w:World) (n:Int) (ao:Option Addr) (ca:Nat) (es:List (Int×Int)) (bh:Nat) (v:Value) (l:List (Int×Int)) (W:World):Prop where
 g:nD w n ao ca es W
 lt:w.heap.size<bh
 box:W.heap[bh]? =some (.cells #[.int .i64 n,v] 24 (0,0))
 own:dW W (bh+1) v l
section
variable {w W W':World} {n:Int} {ao:Option Addr} {ca:Nat} {es:List (Int×Int)} {bh:Nat} {v:Value} {l:List (Int×Int)}
theorem lK.start (h:nD w n ao ca es W):lK w n ao ca es W.heap.size (.slice none 0 0) [] (W.alloc (.cells #[.int .i64 n,.slice none 0 0] 24)):=
 ⟨h.later ((aae _ _).alloc (aad _) _),by have:=lt_of_block h.box;omega,heap_alloc_new W _,by simpa using dW.nil _ _⟩
theorem lK.later (h:lK w n ao ca es bh v l W) (hb:Below W.heap.size W W'):lK w n ao ca es bh v l W':=
 ⟨h.g.later hb,h.lt,(hb.block _ (lt_of_block h.box)).trans h.box,h.own.below hb (aad _)⟩
theorem lK.cells (h:lK w n ao ca es bh v l W):W.cell? ⟨bh,0,none⟩=some (.int .i64 n)/\W.cell? ⟨bh,1,none⟩=some v/\W.frozen? ⟨bh,1,none⟩=false:=by
 simp[World.cell?,World.frozen?,h.box]
theorem lK.Ae (h:lK w n ao ca es bh v l W):∃a c,v= .slice a l.length c/\aN W a l:=by
 obtain⟨a,c,e,-,-,h1,-⟩:=h.own.form;exact⟨a,c,e,h1⟩
theorem lK.grown (h:lK w n ao ca es bh v l W) {W2:World} (h2:W.grownBy W2 v.ownBlock):nD w n ao ca es W2:=by
 have hlt:=h.lt;have sO:∀b,b<=bh->v.ownBlock≠some b:=fun b hb e=>by have:=(acj h.own b e).1;omega
 refine⟨h.g.at_,h.g.low.grown h2 (by have:=h.g.low.size;omega) (fun b hb=>by
  have:=(acj h.own b hb).1;omega),?_⟩
 rw[h2.block _ (lt_of_block h.g.box) (fun e=>sO _ (by omega) e.symm)];exact h.g.box
theorem lK.push (h:lK w n ao ca es bh v l W) {v':Value} {l':List (Int×Int)} {W2:World} (h1:dW W2 (bh+1) v' l') (h2:W.grownBy W2 v.ownBlock):
 lK w n ao ca es bh v' l' (W2.setCell ⟨bh,1,none⟩ v')/\W2.cell? ⟨bh,1,none⟩=some v/\W2.frozen? ⟨bh,1,none⟩=false:=by
 have hlt:=h.lt;have sO:∀b,b<=bh->v.ownBlock≠some b:=fun b hb e=>by have:=(acj h.own b e).1;omega
 have hb2:=lt_of_block h.box;have hg2:=lt_of_block h.g.box;have k2:W2.heap[bh]? =some (.cells #[.int .i64 n,v] 24 (0,0)):=(h2.block _ hb2 (fun e=>sO _ (by omega) e.symm)).trans h.box;refine⟨⟨⟨h.g.at_,?_,?_⟩,hlt,?_,?_⟩,by simp[World.cell?,k2],by simp[World.frozen?,k2]⟩
 .exact(h.g.low.grown h2 (by have:=h.g.low.size;omega) (fun b hb=>by
   have:=(acj h.own b hb).1;omega)).setCell (p:=⟨bh,1,none⟩) (by simp;omega) _
 .rw[heap_setCell_other _ ⟨bh,1,none⟩ w.heap.size _ (by simp;omega),h2.block _ hg2 (fun e=>sO _ (by omega) e.symm)]
  exact h.g.box
 .rw[heap_setCell_same W2 bh 1 _ _ _ k2]
  simp
 .refine⟨h1.1,?_⟩
  rcases h1.2 with h1|⟨g,cap,cur,e,hgB,hh,hr⟩
  .exact .inl h1
  .exact .inr ⟨g,cap,cur,e,hgB,(heap_setCell_other _ ⟨bh,1,none⟩ g _ (by simp;omega)).trans hh,hr⟩
end
namespace Ku
def zL (A w1 w2 w3:World) (k9 NP NN:Nat) (L:Nat->Bool) (V:World):Prop:=if L NN=true then V=w3 else if L NP=true then V=w2 else if L k9=true then V=w1 else V=A
theorem zL.other {A w1 w2 w3:World} {k9 NP NN:Nat} {L:Nat->Bool} {V:World} (h:zL A w1 w2 w3 k9 NP NN L V) {i:Nat} (h1:i≠k9) (h2:i≠NP) (h3:i≠NN):zL A w1 w2 w3 k9 NP NN (aq.bM L i) V:=by
 have e1:aq.bM L i k9=L k9:=if_neg (fun e=>h1 e.symm);have e2:aq.bM L i NP=L NP:=if_neg (fun e=>h2 e.symm);have e3:aq.bM L i NN=L NN:=if_neg (fun e=>h3 e.symm);unfold zL at h ⊢;rw[e1,e2,e3];exact h
end Ku
end
end Go.Proofs.YtbhdibflpjhpaaaGreat
