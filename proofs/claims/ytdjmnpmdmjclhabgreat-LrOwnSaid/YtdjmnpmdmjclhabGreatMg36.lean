import Derived.Test.YtdjmnpmdmjclhabGreatMg35
import Derived.Laws.AppendOwnNone
import Derived.Test.YtdjmnpmdmjclhabGreatMg26
import Derived.Test.YtdjmnpmdmjclhabGreatMg07
import Derived.Test.YtdjmnpmdmjclhabGreatMg33
namespace Go.Proofs.YtdjmnpmdmjclhabGreat
section
open Go.RowKit Lt
namespace Lt
def told (m:Nat) (d:List Int):List Int:=d++List.replicate (m-d.length) 0
theorem Nz {m:Nat} {d:List Int} (h:d.length≤m):(told m d).length=m:=by unfold told;simp;omega
theorem JR {m:Nat} {d:List Int} (h:d.length<m):told m d=told m (d++[0]):=by
 unfold told
 rw[aaH,aaA,abn]
 congr 1
 rw[show m-d.length=(m-(d.length+1))+1 by omega,adq]
 rfl
theorem Ny {m:Nat} {d:List Int} (h:d.length<m) (z:Int):(told m d).set d.length z=told m (d++[z]):=by
 unfold told
 rw[aaH,aaA,abn,ade _ _ (aad _),acP]
 congr 1
 rw[show m-d.length=(m-(d.length+1))+1 by omega,adq]
 rfl
theorem GH {E:Env} {k:Nat} {h:Int} {hs like turn d res:List Int} (hq:sides E k (h::hs) like turn d=some res):∃b,back? E h=some b∧((b=false∧sides E k hs like turn (d++[0])=some res)∨(b=true∧∃r z,side k like turn (d.length:Int)=some r∧r.2[d.length]? =some z∧sides E k hs r.1 r.2 (d++[z])=some res)):=by
 unfold sides at hq
 cases hb:back? E h with
 |none=>rw[hb] at hq;cases hq
 |some b=>
  rw[hb] at hq
  cases b with
  |false=>exact⟨false,rfl,.inl ⟨rfl,hq⟩⟩
  |true=>
   dsimp only at hq
   cases hr:side k like turn (d.length:Int) with
   |none=>rw[hr] at hq;cases hq
   |some r=>
    obtain⟨l',t'⟩:=r
    rw[hr] at hq
    dsimp only at hq
    cases hz:bz t' (d.length:Int) with
    |none=>rw[hz] at hq;cases hq
    |some z=>
     rw[hz] at hq
     obtain⟨k2,e2,q2,p2⟩:=p8 hz
     obtain rfl:k2=d.length:=by omega
     exact⟨true,rfl,.inr ⟨rfl,(l',t'),z,rfl,p2,hq⟩⟩
theorem PU {k:Nat} {like turn:List Int} {x:Int} {r:List Int×List Int} (h:side k like turn x=some r) (hp:Pm turn):Pm r.2:=by
 obtain⟨ws,-,hb⟩:=wI h
 exact Pm.fW (l:=(like,turn)) hp hb
end Lt
section
variable {c:Wp} {p t:Nat} {W0 W:World} {O:Nat→Prop} {st:TS} {L U Z:Nat} {vp vw:Value}
set_option maxRecDepth 100000 in
set_option maxHeartbeats 16000000 in
theorem yZ (h:aR c p t W0 O st L U Z vp vw W) (Q3:Pm st.turn) {k:Nat} {res:List Int} (hs:sides c.env k c.s.aJ st.like st.turn []=some res):Calls Tryz.prog 29 #[.pointer (some ⟨t,0,none⟩)] W fun e w'=>∃g,e= .returned (.slice (some ⟨g,0,none⟩) c.es.length c.es.length)∧aq w' g res∧res.length=c.es.length∧W.heap.size≤g∧Below W0.heap.size W0 w':=by
 obtain⟨i0,hi,hz0,hz1,hz2⟩:=info_parts Tryz.bO
 have cj:=h.wk.val.few
 have hl:=h.wk.vf.lens
 have x0:=h.cells.1
 have x5:=h.now.c5
 have jr:=Nu.hid h
 have TV:=Nu.hid Q3
 have HS:=Nu.hid hs
 have HL:=Nu.hid hl
 clear h Q3 hs hl
 go_enter Tryz.func29,Tryz.ntmps29
 go_wp2_with (at_make;refine wpList_make_full _ rfl _ _ 37 rfl W.heap.size 3 i0 (.int .i64 0) 1 Tryz.underlying37 hi hz0 hz1 _ _ _ _ c.es.length rfl rfl rfl rfl (by rw[hz2];omega) (by unfold maxLen;omega) (aad _) ?_;refine aaB ?_)
 refine Nu.hid ?_
 intro w2 hrow hg2
 rw[cD] at hrow
 have hik:=dy hrow
 have hb2:Below W.heap.size W w2:=(aae _ _).grown hg2 (aad _) (fun j hj=>by cases hj)
 have fX:Hid (aq w2 W.heap.size (told c.es.length [])):=by
  have e:told c.es.length []=List.replicate c.es.length 0:=by unfold told;simp
  rw[e]
  exact hik
 have qx:=jr.out.later hb2
 have y0:=qx.cells.1
 have y5:=qx.now.c5
 have HT2:=Nu.hid qx
 have ct:=Nu.hid hb2
 clear hrow hg2 hik hb2 qx x0 x5
 go_wp2_with fail
 go_loopw [25] (fun iv wr=>∃(i:Nat) (l u d:List Int),iv= .int .i64 (i:Int)∧i≤c.es.length∧d.length=i∧aR c p t W0 O { st with like:=l,turn:=u } L U Z vp vw wr∧Pm u∧aq wr W.heap.size (told c.es.length d)∧sides c.env k (c.s.aJ.drop i) l u d=some res) (fun iv _=>c.es.length-(intOf iv).toNat)
 case atStart=>exact⟨0,_,_,[],rfl,aax _,rfl,HT2.out,TV.out,fX.out,HS.out⟩
 case round=>
  obtain⟨i,l,u,d,rfl,Vs,hd,hT,Bg,hId,aM⟩:=hrel
  by_cases hlt:i<c.es.length
  ·have hw0:=jr.out.wk
   obtain⟨h1,-,h3,h4⟩:=Lo.cO hw0.vf hlt
   obtain⟨q,hq⟩:∃q,Lo.oh c.s i=q:=⟨_,rfl⟩
   rw[hq] at h1 h3 h4
   have hsp:c.s.aJ.drop i=(q:Int)::c.s.aJ.drop (i+1):=by
    have hlt':i<c.s.aJ.length:=by rw[HL.out.2.2.2];exact hlt
    rw[abJ hlt']
    congr 1
    rw[←h1]
    unfold Df.at_
    simp[hlt']
   rw[hsp] at aM
   obtain⟨b,hb,hca⟩:=GH aM
   have hbk:b=decide (Df.at_ c.s.par (Cs.to c.es q)≠(q:Int)):=by
    unfold back? at hb
    rw[(mD hw0.val h3).2] at hb
    dsimp only[Option.bind_some] at hb
    rw[at_at (l:=c.env.par) (v:=Cs.to c.es q) (by show _<c.s.par.length;rw[HL.out.1];exact(Cs.bH hw0.val h3).2)] at hb
    exact(aak hb).symm
   have wj:=Nu.hid (o8 hT.now h3)
   rw[←hbk] at wj
   obtain⟨bo,oo,eo,lI⟩:=hT.now.aJ hlt
   have z0:=hT.cells.1
   have z1:=lI wr (aae _ _) i hlt
   rw[h1] at z1
   rw[eo]
   have i0:(0:Int)≤(i:Int):=by omega
   have i1:(i:Int)<(c.es.length:Int):=by omega
   have i2:(i:Int)+1≤4194304:=by omega
   have HX:Hid (∀V,Below wr.heap.size wr V→V.cell? ⟨t,0,none⟩=some (.pointer (some ⟨p,0,none⟩))):=fun V hV=>(hT.later hV).cells.1
   have HT:=Nu.hid hT
   have WT:=Nu.hid hId
   have hPO:¬O W.heap.size:=fun ho=>by have:=jr.out.oX _ ho;omega
   rcases hca with ⟨rfl,fM⟩|⟨rfl,r,z,hr,hz,fM⟩
   ·have fB:Hid (∀V,Below wr.heap.size wr V→∃(l u d:List Int),d.length=i+1∧aR c p t W0 O { st with like:=l,turn:=u } L U Z vp vw V∧Pm u∧aq V W.heap.size (told c.es.length d)∧sides c.env k (c.s.aJ.drop (i+1)) l u d=some res):=fun V hV=>by
     refine⟨l,u,d++[0],by simp[hd],HT.out.later hV,Bg,?_,fM⟩
     rw[←JR (by omega)]
     exact WT.out.later hV
    clear hT Bg hId aM hd h1 hq hsp hb hbk lI eo fM
    go_wp2_with (go_at_call 38;refine wj.out.mono ?_;rintro e1 w1 ⟨rfl,hb1⟩;have aY:=Nu.hid hb1;clear hb1)
    go_roundw
    case rel=>
     obtain⟨l,u,d,k1,k2,k3,k4,k5⟩:=fB.out _ aY.out
     exact⟨i+1,l,u,d,by simp,by omega,k1,k2,k3,k4,k5⟩
    case measure=>
     simp[intOf]
     omega
   ·have HSI:Hid (∀V,Below wr.heap.size wr V→Calls Tryz.prog 52 #[.pointer (some ⟨t,1,none⟩),.int .i64 (i:Int)] V (rI c p t W0 O { st with like:=l,turn:=u } L U Z vp vw V r i)):=fun V hV=>by
     rw[←hd]
     rw[←hd] at hlt
     exact JP (HT.out.later hV) Bg hlt hr
    have fB:Hid (∀V,aR c p t W0 O { st with like:=r.1,turn:=r.2 } L U Z vp vw V→aq V W.heap.size (told c.es.length (d++[z]))→∃(l u d:List Int),d.length=i+1∧aR c p t W0 O { st with like:=l,turn:=u } L U Z vp vw V∧Pm u∧aq V W.heap.size (told c.es.length d)∧sides c.env k (c.s.aJ.drop (i+1)) l u d=some res):=fun V k1 k2=>
     ⟨r.1,r.2,d++[z],by simp[hd],k1,PU hr Bg,k2,fM⟩
    have HZ:Hid (r.2[i]? =some z):=by rw[hd] at hz;exact hz
    have Cn:Hid ((told c.es.length d).set i z=told c.es.length (d++[z])):=by
     have:=Ny (m:=c.es.length) (d:=d) (by omega) z
     rw[hd] at this
     exact this
    have HTL:Hid ((told c.es.length d).length=c.es.length):=Nz (by omega)
    have hLU:W.heap.size≠L∧W.heap.size≠U:=by
     have:=jr.out.oX _ jr.out.oL
     have:=jr.out.oX _ jr.out.oU
     omega
    clear hT Bg hId aM hd h1 hq hsp hb hbk lI eo fM hr hz
    go_wp2_with (go_at_call 38;refine wj.out.mono ?_;rintro e1 w1 ⟨rfl,hb1⟩;have aY:=Nu.hid hb1;clear hb1)
    go_at_call 52
    refine(HSI.out _ aY.out).mono ?_
    rintro e2 w3 ⟨⟨z',hz',rfl⟩,⟨hk3,hs3⟩,SC⟩
    have hzz:=HZ.out
    rw[hz'] at hzz
    obtain rfl:=aak hzz
    have Ld:aq w3 W.heap.size (told c.es.length d):=hk3.2 _ _ (WT.out.later aY.out) rfl (fun q=>q.elim hLU.1 hLU.2)
    obtain⟨zo,Oh⟩:∃zo,(told c.es.length d)[i]? =some zo:=⟨_,aac (by rw[HTL.out];exact hlt)⟩
    have y1:w3.cell? ⟨W.heap.size,i,none⟩=some (.int .i64 zo):=Ld.cell Oh
    have y2:w3.frozen? ⟨W.heap.size,i,none⟩=false:=Ld.free i
    have Cl:=Nu.hid (SC.far hPO jr.out.aI.size (i:=i) (.int .i64 z'))
    have uE:Hid (aq (w3.setCell ⟨W.heap.size,i,none⟩ (.int .i64 z')) W.heap.size (told c.es.length (d++[z']))):=by
     rw[←Cn.out]
     exact Ld.set i _
    clear hk3 hs3 SC Ld Oh hzz hz'
    simp only[]
    go_wp2_with fail
    go_roundw
    case rel=>
     obtain⟨l,u,d,k1,k2,k3,k4,k5⟩:=fB.out _ Cl.out uE.out
     exact⟨i+1,l,u,d,by simp,by omega,k1,k2,k3,k4,k5⟩
    case measure=>
     simp[intOf]
     omega
  ·obtain rfl:i=c.es.length:=by omega
   have hdr:res=d:=by
    rw[acN (by rw[HL.out.2.2.2];exact aad _)] at aM
    exact(aak aM).symm
   subst hdr
   have WT:Hid (aq wr W.heap.size res):=by
    have e:told c.es.length res=res:=by unfold told;rw[hd,acP];simp
    rw[e] at hId
    exact hId
   have HD:=Nu.hid hd
   have HB:=Nu.hid hT.aI
   clear hT Bg hId aM hd
   go_wp2_with fail
   go_ret
   exact⟨_,rfl,WT.out,HD.out,aad _,HB.out⟩
end
end
section
open Go.RowKit Lt Pl
section
variable {c:Wp} (hv:Si.Val c.n c.es) (h:Df.VF c.n c.es c.s)
include h
theorem Wp.E7:∀x∈c.s.ord,∃v:Nat,v<c.n∧x=(v:Int):=fun x hx=>by
 obtain⟨i,hi,hxi⟩:=acd.1 hx
 have hin:i<c.n:=by rw[←h.lens.2.2.1];exact hi
 have e:Df.at_ c.s.ord i=x:=by
  unfold Df.at_
  simp[hi,hxi]
 have:=(h.once i hin).1
 rw[e] at this
 exact⟨x.toNat,by omega,by omega⟩
theorem Wp.E6:c.s.ord.Nodup:=by
 unfold List.Nodup
 rw[abh]
 intro i j hi hj hij e
 have hjn:j<c.n:=by rw[←h.lens.2.2.1];exact hj
 refine(h.once j hjn).2 i hij ?_
 unfold Df.at_
 simp[hi,hj,e]
theorem Wp.Qf (v:Nat) (dh:v<c.n):(v:Int)∈c.s.ord:=by
 obtain⟨a,ha,e⟩:=h.once.sZ dh
 have mj:a<c.s.ord.length:=by rw[h.lens.2.2.1];exact ha
 rw[←e]
 unfold Df.at_
 simp[mj]
theorem Wp.UX:c.s.aJ=(List.range c.es.length).map fun e=>Df.at_ c.s.aJ e:=by
 apply aa6
 intro i
 rw[aay]
 by_cases hi:i<c.es.length
 ·have hil:i<c.s.aJ.length:=by rw[h.lens.2.2.2];exact hi
  rw[acf hi]
  unfold Df.at_
  simp[hil]
 ·rw[aat (by rw[h.lens.2.2.2];omega),aat (by simp;omega)]
  rfl
end
end
section
open Go.RowKit Lt Pl
namespace Lt
section
variable {n m:Nat} {T:DF n m} {E:Env} {oe:Nat→List Nat} {hf:Nat→Int}
theorem tF:Inv T E oe (start m) (fun _=>False) [] []:=by
 refine⟨⟨by simp[start],by simp[start],fun p hp=>by simp[flat] at hp,by simp[flat,cH],fun x hx=>by simp[flat,cH] at hx,fun x hx=>by simp[cC] at hx,fun x hx _=>⟨FB hx,FB hx⟩,fun x hx=> .inl (FB hx),fun x hx=>by simp[cC] at hx,fun x hx=>by simp[cC] at hx⟩,rfl,by simp[start],trivial,adr,fun e=>by simp,fun v hv=> ?_,adr,fun l hl=>by simp at hl,fun e he=>by simp at he,fun v hv=>hv.elim,fun a _ _ hv=>hv.elim⟩
 rcases hv with hv|⟨l,hl,_⟩
 ·exact hv.elim
 ·simp at hl
theorem JQ (hE:dM T E oe hf) {N:Nat} (hN:2*m+1≤N) {st':TS}:∀{l:List Int} {st:TS} {fin:Nat→Prop} {G:List Nat},Inv T E oe st fin G []→(∀x∈l,∃v:Nat,v<n∧x=(v:Int))→l.Nodup→(∀u:Nat,Root T u→(u:Int)∈l→¬fin u)→trees E N l st=some (some st')→∃fin' G',Inv T E oe st' fin' G' []:=by
 intro l
 induction l with
 |nil=>
  intro st fin G h _ _ _ ht
  cases ht
  exact⟨fin,G,h⟩
 |cons x l ih=>
  intro st fin G h hx hnd hro ht
  obtain⟨v,hv,rfl⟩:=hx x aag
  have hx':∀x∈l,∃v:Nat,v<n∧x=(v:Int):=fun y hy=>hx y (aah _ hy)
  have X7:=(aa0.1 hnd).2
  rcases DD hE hN h hv hnd hro ht with ⟨y,_,_,q⟩|⟨_,_,q⟩
  ·exact ih h hx' X7 (fun u hu hm=>hro u hu (aah _ hm)) q
  ·rcases q with ⟨_,q⟩|⟨fC,rB,G1,_,q2,q3,q4⟩
   ·cases q
   ·exact ih q2 hx' X7 q4 q3
theorem NB (hE:dM T E oe hf) (nE:∀x∈E.ord,∃v:Nat,v<n∧x=(v:Int)) (hnd:E.ord.Nodup) (hall:∀v:Nat,v<n→(v:Int)∈E.ord) (aer:E.aJ=(List.range m).map hf):
 ∃r,(∃k0,∀k,k0≤k→test E k m=some r)∧((r=none∧∀sd,¬T.LR sd)∨∃sd,r=some ((List.range m).map (eF T sd))∧T.LR sd∧T.Aligned sd):=by
 have hstart:Inv T E oe (start m) (fun _=>False) [] []:=tF
 have Rg:∀(L:List Int) (N d:Nat) (st:TS) (r:Option TS),trees E N L st=some r→trees E (N+d) L st=some r:=by
  intro L
  induction L with
  |nil=>exact fun N d st r h=>h
  |cons x L ih=>
   intro N d st r h
   unfold trees at h ⊢
   cases hp:bz E.par x with
   |none=>rw[hp] at h;cases h
   |some p=>
    rw[hp] at h
    dsimp only at h ⊢
    by_cases e:p= -1
    ·rw[if_pos e] at h ⊢
     cases hr:run E N (enter st x) with
     |none=>rw[hr] at h;cases h
     |some q=>
      rw[NI N _ hr d]
      rw[hr] at h
      cases q with
      |none=>exact h
      |some nP=>exact ih N d nP r h
    ·rw[if_neg e] at h ⊢
     exact ih N d st r h
 rcases Gs hE (aad (2*m+1)) E.ord hstart nE hnd (fun _ _ _ q=>q) with q|⟨st',fin',G',q1,q2,_,q4⟩
 ·refine⟨none,⟨2*m+1,fun k hk=> ?_⟩,.inl ⟨rfl,q.2⟩⟩
  unfold test
  rw[show k=(2*m+1)+(k-(2*m+1)) by omega,Rg E.ord _ _ _ _ q.1]
 ·have MN:=S7 q2 fun v hv hr=>q4 v hr (hall v hv)
  have hG:∀e,e<m→e∈G':=fun e he=>(q2.gi e).2 ⟨he,.inl (MN _ (T.lt e he).1)⟩
  have hlk:Lk m st'.like st'.turn (cC T G') []:=q2.lk
  obtain⟨sd,aM⟩:=hlk.sat
  obtain⟨K,hK⟩:=Ka hlk.res m
  refine⟨_,⟨2*m+1+K,fun k hk=> ?_⟩,.inr ⟨sd,rfl,⟨?_,?_⟩,?_⟩⟩
  ·unfold test
   rw[show k=(2*m+1)+(k-(2*m+1)) by omega,Rg E.ord _ _ _ _ q1]
   dsimp only
   have hs:=NF (K:=(2*m+1)+(k-(2*m+1))) hE (fun e he te=>(⟨hG e he,te⟩:cC T G' e)) hlk.sm 0 m st'.like st'.turn (by omega) hlk.ll hlk.lt aM hlk.tn hlk.cl (fun x hx sx=>by
    obtain⟨d,r,k1,k2⟩:=hK x hx sx
    exact⟨d,r,by omega,k2⟩)
   rw[aer,List.range_eq_range',show([]:List Int)=(List.range 0).map (eF T sd) from rfl]
   rw[hs,List.range_eq_range']
   rfl
  ·intro e f b c he hf' hne hfr rb rc ab ac
   exact(q2.r1 (T.fr e) (MN _ (T.lt e he).1) e f he hf' rfl hfr.symm hne sd aM).1 b c rb rc ab ac
  ·intro e f b c he hf' hne hfr rb ab rc ac
   exact(q2.r1 (T.fr e) (MN _ (T.lt e he).1) e f he hf' rfl hfr.symm hne sd aM).2.2 b c rb ab rc ac
  ·intro e b c he te hb hc
   exact q2.r2 e he te (MN _ (T.lt e he).2) sd aM b c hb hc
end
end Lt
noncomputable def S0 (n:Nat) (es:List (Int×Int)) (s:Df.St):Env:=Wp.env ⟨n,es,s,none,0,⟨none,none,none,none,0,0,0,0⟩,undef,undef,undef,undef,[]⟩
def gO (n:Nat) (es:List (Int×Int)) (s:Df.St) (r:Option (List Int)):Prop:=∃k0,∀k,k0≤k→Lt.test (S0 n es s) k es.length=some r
theorem gO.unique {n:Nat} {es:List (Int×Int)} {s:Df.St} {r r':Option (List Int)} (h:gO n es s r) (h':gO n es s r'):r=r':=by
 obtain⟨a,ha⟩:=h
 obtain⟨b,hb⟩:=h'
 have h1:=ha (a+b) (by omega)
 rw[hb (a+b) (by omega)] at h1
 exact(aak h1).symm
theorem gO.ex {n:Nat} {es:List (Int×Int)} {s:Df.St} (hv:Si.Val n es) (h:Df.VF n es s):∃r,gO n es s r∧((r=none∧∀sd,¬(Lr.df hv h).LR sd)∨∃sd,r=some ((List.range es.length).map (eF (Lr.df hv h) sd))∧(Lr.df hv h).LR sd∧(Lr.df hv h).Aligned sd):=by
 obtain⟨c,hc,e1,e2,e3⟩:∃c:Wp,S0 n es s=c.env∧c.n=n∧c.es=es∧c.s=s:=⟨_,rfl,rfl,rfl,rfl⟩
 subst e1
 subst e2
 subst e3
 unfold gO
 rw[hc]
 exact NB (Wp.BN hv h) (Wp.E7 h) (Wp.E6 h) (Wp.Qf h) (Wp.UX h)
end
section
namespace Df
theorem FR {l:List Int} {v:Nat} (hv:v<l.length) (x:Int) (u:Nat):at_ (l.set v x) u=if u=v then x else at_ l u:=by
 unfold at_
 rw[aai,aaq]
 by_cases e:v=u
 ·rw[if_pos e,if_pos hv,if_pos e.symm];rfl
 ·rw[if_neg e,if_neg (fun h=>e h.symm),aai]
theorem Wc {l:List Int} {x:Int} {i:Nat} (hi:i<l.length):at_ (l++[x]) i=at_ l i:=by
 unfold at_
 rw[aai,abI hi,aai]
theorem S4 {l:List Int} {x:Int}:at_ (l++[x]) l.length=x:=by
 unfold at_
 rw[aai,ab2 (aad _)]
 simp
structure Ext (s s':St):Prop where
 par:∀v:Nat,s.height v≠-1→at_ s'.par v=at_ s.par v
 az:∀v:Nat,s.height v≠-1→s'.height v=s.height v
 dir:∀e:Nat,s.dir e≠-1→s'.dir e=s.dir e
theorem Ext.refl (s:St):Ext s s:=⟨fun _ _=>rfl,fun _ _=>rfl,fun _ _=>rfl⟩
theorem Ext.reached {s s':St} (h:Ext s s') {v:Nat} (hv:s.height v≠-1):s'.height v≠-1:=by rw[h.az v hv];exact hv
theorem Ext.walked {s s':St} (h:Ext s s') {e:Nat} (hv:s.dir e≠-1):s'.dir e≠-1:=by rw[h.dir e hv];exact hv
theorem Ext.trans {s s' s'':St} (h:Ext s s') (h':Ext s' s''):Ext s s'':=
 ⟨fun v hv=>(h'.par v (h.reached hv)).trans (h.par v hv),fun v hv=>(h'.az v (h.reached hv)).trans (h.az v hv),fun e he=>(h'.dir e (h.walked he)).trans (h.dir e he)⟩
section
variable {n r:Nat} {es:List (Int×Int)} {s s':St} {W:List Int}
theorem Ext.up (h:Ext s s') {v:Nat} (hv:s.height v≠-1):Df.up es s' v=Df.up es s v:=by
 unfold Df.up
 rw[aaF,h.par v hv]
abbrev Rd (n:Nat) (s:St) (W:List Int):Prop:=∀x∈W,∃u:Nat,x=(u:Int)∧u<n∧s.height u≠-1
theorem Ext.rd (h:Ext s s') (hr:Rd n s W):Rd n s' W:=fun x hx=>by
 obtain⟨u,e,h1,h2⟩:=hr x hx
 exact⟨u,e,h1,h.reached h2⟩
theorem Ext.way (h:Ext s s'):∀{W:List Int},Rd n s W→dK es s W→dK es s' W
 |[],_,_=>trivial
 |v::W,hr,hw=>by
  obtain⟨u,rfl,h1,h2⟩:=hr v aag
  refine⟨hw.1,?_,Ext.way h (fun x hx=>hr x (aah _ hx)) hw.2.2⟩
  rw[h.up h2]
  exact hw.2.1
def CD (n:Nat) (es:List (Int×Int)) (s:St) (e:Nat):Prop:=
 ∃h:Nat,(h=2*e∨h=2*e+1)∧s.dir e=(h:Int)∧((s.height (Cs.to es h)≠-1∧at_ s.par (Cs.to es h)=(h:Int))∨∃W,dK es s ((Cs.fr es h:Int)::W)∧(Cs.to es h:Int)∈(Cs.fr es h:Int)::W∧Rd n s ((Cs.fr es h:Int)::W))
theorem CD.ext {e:Nat} (h:Ext s s') (hd:CD n es s e):CD n es s' e:=by
 obtain⟨x,h1,h2,h3⟩:=hd
 refine⟨x,h1,?_,?_⟩
 ·rw[h.dir e (by rw[h2];omega)]
  exact h2
 ·rcases h3 with ⟨h4,h5⟩|⟨W,h4,h5,h6⟩
  ·exact .inl ⟨h.reached h4,by rw[h.par _ h4];exact h5⟩
  ·exact .inr ⟨W,h.way h6 h4,h5,h.rd h6⟩
theorem rU:∀k,(∀i,i<k→at_ s'.ord i=at_ s.ord i∧Df.up es s' (at_ s.ord i)=Df.up es s (at_ s.ord i))→side n es s' k=side n es s k
 |0,_=>rfl
 |k+1,h=>by
  unfold side
  rw[rU k (fun i hi=>h i (by omega))]
  obtain⟨h1,h2⟩:=h k (by omega)
  rw[h1,h2]
def og (es:List (Int×Int)) (s:St) (v:Nat):Prop:=
 (at_ s.par v= -1∧s.height v=0)∨∃h:Nat,h<2*es.length∧at_ s.par v=(h:Int)∧Cs.to es h=v∧s.dir (h/2)=(h:Int)∧s.height (Cs.fr es h)≠-1∧s.height v=s.height (Cs.fr es h)+1
theorem og.ext {v:Nat} (h:Ext s s') (hv:s.height v≠-1) (hd:og es s v):og es s' v:=by
 unfold og
 rw[h.par v hv,h.az v hv]
 rcases hd with h1|⟨x,h1,h2,h3,h4,h5,h6⟩
 ·exact .inl h1
 ·refine .inr ⟨x,h1,h2,h3,?_,h.reached h5,?_⟩
  ·rw[h.dir _ (by rw[h4];omega)]
   exact h4
  ·rw[h.az _ h5]
   exact h6
structure Inv (n:Nat) (es:List (Int×Int)) (W:List Int) (s:St):Prop where
 once:∀i,i<s.ord.length→∀j,j<i→at_ s.ord j≠at_ s.ord i
 mem:∀v:Nat,v<n→((v:Int)∈s.ord↔s.height v≠-1)
 hang:∀v:Nat,v<n→s.height v≠-1→og es s v
 side:∃X B,Df.side n es s s.ord.length=some (X++W,B)∧(X++W).Nodup∧Rd n s (X++W)
 way:dK es s W
 rE:∀e,e<es.length→s.dir e≠-1→CD n es s e
 fin:∀v:Nat,v<n→s.height v≠-1→(v:Int)∉W→∀h,h<2*es.length→Cs.fr es h=v→s.dir (h/2)≠-1
theorem Inv.rd (h:Inv n es W s):Rd n s W:=by
 obtain⟨X,B,_,_,hr⟩:=h.side
 exact fun x hx=>hr x (aaz _ hx)
theorem at_mem {l:List Int} {i:Nat} (hi:i<l.length):at_ l i∈l:=by
 unfold at_
 rw[aai,aac hi]
 exact aaX hi
theorem r8 (b:Bd n es r s) {h:Nat} (hl:h<2*es.length) (hw:s.dir (h/2)= -1):Ext s (s.mark h):=
 ⟨fun _ _=>rfl,fun _ _=>rfl,fun e he=>by
   rw[jy b hl,if_neg]
   intro e1
   rw[e1] at he
   exact he hw⟩
theorem mH (b:Bd n es r s) {v:Nat} (hv:v<n) (hu:s.height v= -1) (x y:Int):Ext s (s.reach v x y):=
 ⟨fun u hr=>by
   show at_ (s.par.set v x) u=_
   rw[FR (by rw[b.lp];exact hv),if_neg]
   intro e
   rw[e] at hr
   exact hr hu,fun u hr=>by
   rw[bM b hv,if_neg]
   intro e
   rw[e] at hr
   exact hr hu,fun e he=>rfl⟩
theorem Inv.back {v h:Nat} (hval:Si.Val n es) (b:Bd n es r s) (i:Inv n es ((v:Int)::W) s) (hl:h<2*es.length) (hf:Cs.fr es h=v) (hw:s.dir (h/2)= -1) (hv:s.height (Cs.to es h)≠-1):Inv n es ((v:Int)::W) (s.mark h):=by
 have hx:=r8 b hl hw
 have ht:=(Cs.bH hval hl).2
 have hin:(Cs.to es h:Int)∈(v:Int)::W:=by
  refine abw fun hn=> ?_
  have:=i.fin _ ht hv hn (Cs.twin h) (Cs.uL hl) (Cs.BJ es h)
  apply this
  have e:Cs.twin h/2=h/2:=by unfold Cs.twin;split<;>omega
  rw[e]
  exact hw
 refine⟨i.once,i.mem,fun u hu hr=>og.ext hx hr (i.hang u hu hr),?_,hx.way i.rd i.way,fun e he hd=> ?_,fun u hu hr hn g hg hfg=>hx.walked (i.fin u hu hr hn g hg hfg)⟩
 ·obtain⟨X,B,h1,h2,h3⟩:=i.side
  refine⟨X,B,?_,h2,h3⟩
  show Df.side n es (s.mark h) s.ord.length=_
  exact(rU (s:=s) (s':=s.mark h) s.ord.length (fun j hj=>⟨rfl,rfl⟩)).trans h1
 ·by_cases e1:e=h/2
  ·subst e1
   refine⟨h,by omega,?_,.inr ⟨W,?_,?_,?_⟩⟩
   ·rw[jy b hl,if_pos rfl]
   ·rw[hf];exact hx.way i.rd i.way
   ·rw[hf];exact hin
   ·rw[hf];exact hx.rd i.rd
  ·rw[jy b hl,if_neg e1] at hd
   exact(i.rE e he hd).ext hx
theorem DZ {p i:Int}:∀(X Y B:List Int),p∉X→(leave p i (X++p::Y) B).1=p::Y
 |[],Y,B,_=>by
  show(leave p i (p::Y) B).1=_
  unfold leave
  rw[if_pos rfl]
 |x::X,Y,B,h=>by
  show(leave p i (x::(X++p::Y)) B).1=_
  unfold leave
  rw[if_neg (fun e=>h (by rw[e];exact aag))]
  exact DZ X Y _ (fun hm=>h (aah _ hm))
theorem Inv.new {v:Nat} {x y:Int} (b:Bd n es r s) (hv:v<n) (hu:s.height v= -1) (hy:y≠-1)
 (once:∀i,i<s.ord.length→∀j,j<i→at_ s.ord j≠at_ s.ord i) (mem:∀v:Nat,v<n→((v:Int)∈s.ord↔s.height v≠-1)) (hang:∀u:Nat,u<n→s.height u≠-1→og es s u)
 (side:∃X B,Df.side n es s s.ord.length=some (X++W,B)∧(X++W).Nodup∧Rd n s (X++W)) (way:dK es s W) (rE:∀e,e<es.length→s.dir e≠-1→CD n es (s.reach v x y) e)
 (fin:∀u:Nat,u<n→s.height u≠-1→(u:Int)∉W→∀h,h<2*es.length→Cs.fr es h=u→s.dir (h/2)≠-1)
 (aaL:og es (s.reach v x y) v) (eP:Df.up es (s.reach v x y) v=W.headD (-1)):Inv n es ((v:Int)::W) (s.reach v x y):=by
 have hx:=mH b hv hu x y
 have hnew:(s.reach v x y).height v=y:=by rw[bM b hv,if_pos rfl]
 have hnot:(v:Int)∉s.ord:=fun hm=>((mem v hv).1 hm) hu
 have lU:∀u:Nat,u≠v→(s.reach v x y).height u=s.height u:=fun u e=>by rw[bM b hv,if_neg e]
 obtain⟨X,B,hs,hnd,hrd⟩:=side
 have hvW:(v:Int)∉X++W:=fun hm=>by
  obtain⟨u,e,h1,h2⟩:=hrd _ hm
  obtain rfl:v=u:=by omega
  exact h2 hu
 have XP:Rd n s W:=fun z hz=>hrd z (aaz _ hz)
 have aaU:∀i,i<s.ord.length→∃u:Nat,at_ s.ord i=(u:Int)∧u<n∧s.height u≠-1:=fun i hi=>by
  have hm:=at_mem hi
  have h0:=b.hd _ hm
  refine⟨(at_ s.ord i).toNat,by omega,by omega,(mem _ (by omega)).1 ?_⟩
  rw[acs h0.1]
  exact hm
 have hlen:(s.reach v x y).ord.length=s.ord.length+1:=by simp[St.reach]
 have hat:∀i,i<s.ord.length→at_ (s.reach v x y).ord i=at_ s.ord i:=fun i hi=>Wc hi
 have Yy:at_ (s.reach v x y).ord s.ord.length=(v:Int):=S4
 refine⟨fun i hi j hj=> ?_,fun u hun=> ?_,fun u hun hr=> ?_,?_,?_,fun e he hd=>rE e he hd,fun u hun hr hn h hh hf=> ?_⟩
 ·rw[hlen] at hi
  by_cases e:i=s.ord.length
  ·rw[e,Yy,hat j (by omega)]
   intro h
   exact hnot (h▸at_mem (by omega))
  ·rw[hat i (by omega),hat j (by omega)]
   exact once i (by omega) j hj
 ·by_cases e:u=v
  ·subst e
   rw[hnew]
   exact⟨fun _=>hy,fun _=>aaz _ (by simp)⟩
  ·rw[lU u e,←mem u hun]
   constructor
   ·intro h
    rcases aal.1 (show(u:Int)∈s.ord++[(v:Int)] from h) with h|h
    ·exact h
    ·rw[aao] at h
     omega
   ·exact fun h=>aaN _ h
 ·by_cases e:u=v
  ·rw[e];exact aaL
  ·rw[lU u e] at hr
   exact og.ext hx hr (hang u hun hr)
 ·have hk:Df.side n es (s.reach v x y) s.ord.length=some (X++W,B):=by
   rw[rU (s:=s) s.ord.length (fun j hj=> ?_)]
   ·exact hs
   ·obtain⟨u,e,h1,h2⟩:=aaU j hj
    rw[hat j hj,e]
    exact⟨rfl,hx.up h2⟩
  rw[hlen]
  have hleave:(leave (W.headD (-1)) s.ord.length (X++W) B).1=W:=by
   cases W with
   |nil=>
    simp only[List.headD_nil,abf]
    exact yt fun z hz=>by
     obtain⟨u,e,_⟩:=hrd z (by simpa using hz)
     omega
   |cons p W=>
    simp only[List.headD_cons]
    exact DZ X W B (fun hm=>(aa5.1 hnd).2.2 p hm p aag rfl)
  refine⟨[],(leave (W.headD (-1)) s.ord.length (X++W) B).2,?_,?_,?_⟩
  ·unfold Df.side
   rw[hk,acj]
   dsimp only
   rw[Yy,eP,hleave,if_neg]
   ·rfl
   ·rintro⟨h1,h2⟩
    rw[h2] at h1
    exact h1 rfl
  ·refine aa0.2 ⟨fun h=>hvW (aaz _ h),(aa5.1 hnd).2.1⟩
  ·intro z hz
   rcases aaj.1 hz with rfl|hz
   ·exact⟨v,rfl,hv,by rw[hnew];exact hy⟩
   ·exact hx.rd XP z hz
 ·exact⟨by omega,eP,hx.way XP way⟩
 ·have huv:u≠v:=fun e=>hn (by rw[e];exact aag)
  rw[lU u huv] at hr
  exact hx.walked (fin u hun hr (fun hm=>hn (aah _ hm)) h hh hf)
end
end Df
end
section
namespace Df
section
variable {n r:Nat} {es:List (Int×Int)} {s s':St} {W:List Int}
theorem J1 {h k:Nat}:side n es (s.mark h) k=side n es s k:=rU (s:=s) (s':=s.mark h) k (fun _ _=>⟨rfl,rfl⟩)
theorem Inv.go {v h:Nat} (hval:Si.Val n es) (b:Bd n es r s) (i:Inv n es ((v:Int)::W) s) (hl:h<2*es.length) (hf:Cs.fr es h=v) (hw:s.dir (h/2)= -1) (hv:s.height (Cs.to es h)= -1):Inv n es ((Cs.to es h:Int)::(v:Int)::W) (s.go es h):=by
 have hx:=r8 b hl hw
 obtain⟨hfn,ht⟩:=Cs.bH hval hl
 have bm:=b.mark hl hw
 have hr:s.height v≠-1:=by
  obtain⟨u,e,_,h2⟩:=i.rd v aag
  obtain rfl:v=u:=by omega
  exact h2
 have hy:s.height (Cs.fr es h)+1≠-1:=by
  have:=(b.hh _ hfn).1
  omega
 have hv':(s.mark h).height (Cs.to es h)= -1:=hv
 have hx2:=mH bm ht hv' (h:Int) (s.height (Cs.fr es h)+1)
 have hpar:at_ (s.go es h).par (Cs.to es h)=(h:Int):=by
  show at_ (s.par.set (Cs.to es h) (h:Int)) (Cs.to es h)=_
  rw[FR (by rw[b.lp];exact ht),if_pos rfl]
 have hnt:Cs.fr es h≠Cs.to es h:=by
  intro e
  rw[←e,hf] at hv
  exact hr hv
 have BB:(s.go es h).dir (h/2)=(h:Int):=by
  show(s.mark h).dir (h/2)=_
  rw[jy b hl,if_pos rfl]
 have Vt:(s.go es h).height (Cs.to es h)=s.height (Cs.fr es h)+1:=by
  show((s.mark h).reach (Cs.to es h) (h:Int) (s.height (Cs.fr es h)+1)).height (Cs.to es h)=_
  rw[bM bm ht,if_pos rfl]
 have KX:(s.go es h).height (Cs.fr es h)=s.height (Cs.fr es h):=by
  show((s.mark h).reach (Cs.to es h) (h:Int) (s.height (Cs.fr es h)+1)).height (Cs.fr es h)=_
  rw[bM bm ht,if_neg hnt]
  rfl
 refine Inv.new (s:=s.mark h) (x:=(h:Int)) (y:=s.height (Cs.fr es h)+1) bm ht hv' hy i.once i.mem (fun u hu Vf=>og.ext hx Vf (i.hang u hu Vf)) ?_ (hx.way i.rd i.way) (fun e he hd=> ?_) (fun u hu Vf hn g hg hfg=>hx.walked (i.fin u hu Vf hn g hg hfg)) ?_ ?_
 ·obtain⟨X,B,h1,h2,h3⟩:=i.side
  exact⟨X,B,J1.trans h1,h2,h3⟩
 ·by_cases e1:e=h/2
  ·subst e1
   exact⟨h,by omega,BB,.inl ⟨by rw[show((s.mark h).reach (Cs.to es h) (h:Int) (s.height (Cs.fr es h)+1)).height (Cs.to es h)=_ from Vt];exact hy,hpar⟩⟩
  ·rw[jy b hl,if_neg e1] at hd
   exact((i.rE e he hd).ext hx).ext hx2
 ·exact .inr ⟨h,hl,hpar,rfl,BB,by rw[show((s.mark h).reach (Cs.to es h) (h:Int) (s.height (Cs.fr es h)+1)).height (Cs.fr es h)=_ from KX,hf];exact hr,by rw[show((s.mark h).reach (Cs.to es h) (h:Int) (s.height (Cs.fr es h)+1)).height (Cs.to es h)=_ from Vt,show((s.mark h).reach (Cs.to es h) (h:Int) (s.height (Cs.fr es h)+1)).height (Cs.fr es h)=_ from KX]⟩
 ·show Cs.FE es (at_ (s.go es h).par ((Cs.to es h:Int)).toNat)=_
  rw[aaF,hpar,Cs.jP hl,hf]
  rfl
theorem Inv.root {v:Nat} (b:Bd n es r s) (i:Inv n es [] s) (hv:v<n) (hu:s.height v= -1):Inv n es [(v:Int)] (s.reach v (-1) 0):=by
 have hx:=mH b hv hu (-1) 0
 have hpar:at_ (s.reach v (-1) 0).par v= -1:=by
  show at_ (s.par.set v (-1)) v=_
  rw[FR (by rw[b.lp];exact hv),if_pos rfl]
 refine Inv.new b hv hu (by omega) i.once i.mem i.hang i.side i.way (fun e he hd=>(i.rE e he hd).ext hx) i.fin (.inl ⟨hpar,by rw[bM b hv,if_pos rfl]⟩) ?_
 show Cs.FE es (at_ (s.reach v (-1) 0).par ((v:Int)).toNat)=_
 rw[aaF,hpar]
 exact Cs.zQ (by omega)
theorem Inv.finish {v:Nat} (i:Inv n es ((v:Int)::W) s) (hd:∀h,h<2*es.length→Cs.fr es h=v→s.dir (h/2)≠-1):Inv n es W s:=by
 refine⟨i.once,i.mem,i.hang,?_,i.way.2.2,i.rE,fun u hu hr hn h hh hf=> ?_⟩
 ·obtain⟨X,B,h1,h2,h3⟩:=i.side
  refine⟨X++[(v:Int)],B,?_,?_,?_⟩<;>rw[aaH]<;>assumption
 ·by_cases e:u=v
  ·exact hd h hh (by rw[hf,e])
  ·exact i.fin u hu hr (fun hm=>(aaj.1 hm).elim (fun e1=>e (by omega)) hn) h hh hf
theorem G5 {v h:Nat} (hh:h<2*es.length) (hf:Cs.fr es h=v):h∈Cs.out es v (2*es.length):=aaG (Cs.Mr hh hf)
theorem Mq {v h:Nat} (hh:h∈Cs.out es v (2*es.length)):h<2*es.length∧Cs.fr es h=v:=by
 obtain⟨j,hj⟩:=ab8 hh
 exact⟨(Cs.nD hj).1,(Cs.nD hj).2.1⟩
theorem R.inv {k:Nat} {L:List Nat} (hval:Si.Val n es) (h:R es k s L s'):∀(v:Nat) (W:List Int),Bd n es r s→Inv n es ((v:Int)::W) s→(∀x∈L,x<2*es.length∧Cs.fr es x=v)→(∀x,x<2*es.length→Cs.fr es x=v→x∈L∨s.dir (x/2)≠-1)→
 Inv n es ((v:Int)::W) s'∧Ext s s'∧∀x,x<2*es.length→Cs.fr es x=v→s'.dir (x/2)≠-1:=by
 induction h with
 |nil s=>
  intro v W b i hL hF
  refine⟨i,Ext.refl s,fun x hx hf=> ?_⟩
  rcases hF x hx hf with h|h
  ·simp at h
  ·exact h
 | @old k s s' h L hw hr ih=>
   intro v W b i hL hF
   refine ih v W b i (fun x hx=>hL x (aah _ hx)) (fun x hx hf=> ?_)
   rcases hF x hx hf with h1|h1
   ·rcases aaj.1 h1 with rfl|h1
    ·exact .inr hw
    ·exact .inl h1
   ·exact .inr h1
 | @back k s s' h L hw hv hr ih=>
   intro v W b i hL hF
   obtain⟨hh,hf⟩:=hL h aag
   have hx:=r8 b hh hw
   obtain⟨h1,h2,h3⟩:=ih v W (b.mark hh hw) (i.back hval b hh hf hw hv) (fun x hx=>hL x (aah _ hx)) (fun x hxl C6=>by
    rcases hF x hxl C6 with h1|h1
    ·rcases aaj.1 h1 with rfl|h1
     ·exact .inr (by rw[jy b hh,if_pos rfl];omega)
     ·exact .inl h1
    ·exact .inr (hx.walked h1))
   exact⟨h1,hx.trans h2,h3⟩
 | @tree j k s s1 s' h L hw hv hr1 hr2 ih1 ih2=>
   intro v W b i hL hF
   obtain⟨hh,hf⟩:=hL h aag
   have bg:=b.go hval hh hw
   have hx:Ext s (s.go es h):=(r8 b hh hw).trans (mH (b.mark hh hw) (Cs.bH hval hh).2 hv _ _)
   obtain⟨i1,x1,d1⟩:=ih1 (Cs.to es h) ((v:Int)::W) bg (i.go hval b hh hf hw hv) (fun x hx=>Mq hx) (fun x hxl C6=> .inl (G5 hxl C6))
   have hx1:=hx.trans x1
   obtain⟨h1,h2,h3⟩:=ih2 v W (hr1.bd hval eZ bg) (i1.finish d1) (fun x hx=>hL x (aah _ hx)) (fun x hxl C6=>by
    rcases hF x hxl C6 with h1|h1
    ·rcases aaj.1 h1 with rfl|h1
     ·refine .inr ?_
      have:(s.go es x).dir (x/2)=(x:Int):=by
       show(s.mark x).dir (x/2)=_
       rw[jy b hh,if_pos rfl]
      rw[x1.dir _ (by rw[this];omega),this]
      omega
     ·exact .inl h1
    ·exact .inr (hx1.walked h1))
   exact⟨h1,hx1.trans h2,h3⟩
theorem Ek (m v:Nat):(List.replicate m (-1:Int)).getD v (-1)= -1:=by
 rw[aai,aaI]
 split<;>rfl
theorem Wk.inv (hval:Si.Val n es) {i:Nat} (h:Wk n es i s):i≤n→Inv n es [] s∧∀v,v<i→s.height v≠-1:=by
 induction h with
 |zero=>
  intro _
  have hh:∀v,(St.start n es.length).height v= -1:=fun v=>Ek n v
  have hd:∀e,(St.start n es.length).dir e= -1:=fun e=>Ek es.length e
  refine⟨⟨fun i hi=>absurd hi (by simp[St.start]),fun v hv=> ?_,fun v hv h=>absurd (hh v) h,⟨[],_,rfl,by simp,fun x hx=>absurd hx (by simp)⟩,trivial,fun e he h=>absurd (hd e) h,fun v hv h=>absurd (hh v) h⟩,fun v hv=>absurd hv (by omega)⟩
  constructor
  ·intro h;simp[St.start] at h
  ·exact fun h=>absurd (hh v) h
 | @pass i s h hv ih=>
   intro hi
   obtain⟨h1,h2⟩:=ih (by omega)
   refine⟨h1,fun v hvi=> ?_⟩
   by_cases e:v=i
   ·rw[e];exact hv
   ·exact h2 v (by omega)
 | @walk i k s s' h hv hr ih=>
   intro hi
   obtain⟨h1,h2⟩:=ih (by omega)
   have b:=h.bd hval (by omega)
   have hx:=mH b (by omega:i<n) hv (-1) 0
   obtain⟨i1,x1,d1⟩:=hr.inv hval i [] (b.root (by omega)) (h1.root b (by omega) hv) (fun x hx=>Mq hx) (fun x hxl C6=> .inl (G5 hxl C6))
   refine⟨i1.finish d1,fun v hvi=> ?_⟩
   by_cases e:v=i
   ·rw[e]
    refine x1.reached ?_
    rw[bM b (by omega),if_pos rfl]
    omega
   ·exact(hx.trans x1).reached (h2 v (by omega))
theorem M8 {l:List Int} {i:Nat} (hi:i<l.length):at_ l i=l[i]:=by
 unfold at_
 rw[aai,aac hi]
 rfl
theorem Wk.vf (hval:Si.Val n es) (h:Wk n es n s):VF n es s:=by
 obtain⟨i,hall⟩:=h.inv hval (aad _)
 have b:=h.bd hval (aad _)
 have cj:=hval.few
 have MF:s.ord.Nodup:=by
  unfold List.Nodup
  rw[abh]
  intro a c ha hc hac
  have:=i.once c hc a hac
  rw[M8 ha,M8 hc] at this
  exact this
 have hperm:s.ord.Perm ((List.range n).map Int.ofNat):=by
  rw[List.perm_ext_iff_of_nodup MF]
  ·intro x
   constructor
   ·intro hx
    have:=b.hd x hx
    exact aa2.2 ⟨x.toNat,aaO.2 (by omega),by simp;omega⟩
   ·intro hx
    obtain⟨v,hv,rfl⟩:=aa2.1 hx
    exact(i.mem v (aaO.1 hv)).2 (hall v (aaO.1 hv))
  ·rw[List.nodup_iff_pairwise_ne,List.pairwise_map]
   refine List.Pairwise.imp ?_ List.nodup_range
   intro a c hac e
   exact hac (ac7 e)
 have hlen:s.ord.length=n:=by rw[hperm.length_eq];simp
 refine⟨⟨b.lp,b.lh,hlen,b.lo⟩,fun a ha=>⟨?_,fun j hj=>i.once a (by omega) j hj⟩,fun v hv=> ?_,?_,fun e he=> ?_⟩
 ·exact b.hd _ (at_mem (by omega))
 ·rcases i.hang v hv (hall v hv) with h1|⟨x,h1,h2,h3,h4,h5,h6⟩
  ·exact .inl h1
  ·refine .inr ⟨x,h1,h2,h3,h4,?_⟩
   have h7:=b.hh _ (Cs.bH hval h1).1
   rw[aa1]
   show s.height v=_
   rw[h6]
   have e:at_ s.az (Cs.fr es x)=s.height (Cs.fr es x):=rfl
   rw[e]
   omega
 ·obtain⟨X,B,h1,_,_⟩:=i.side
  rw[hlen] at h1
  exact⟨_,h1⟩
 ·have h2:2*e<2*es.length:=by omega
  have hf:=(Cs.bH hval h2).1
  have hd:=i.fin _ hf (hall _ hf) (by simp) (2*e) h2 rfl
  rw[show 2*e/2=e by omega] at hd
  obtain⟨x,h3,h4,h5⟩:=i.rE e he hd
  refine⟨x,h3,h4,?_⟩
  rcases h5 with ⟨_,h6⟩|⟨Y,h6,h7,_⟩
  ·exact .inl h6
  ·exact .inr ⟨Y,h6,h7⟩
end
end Df
end
section
open Lt Pl
namespace Lw
open Df
def iK:List (Int×Int):=[(0,1),(0,2),(0,3),(1,2),(1,3),(2,3)]
def s4:St:=⟨[-1,0,6,10],[0,1,2,3],[0,1,2,3],[0,3,5,6,9,10]⟩
def gR:List (Int×Int):=[(0,1),(0,2),(0,3),(0,4),(1,2),(1,3),(1,4),(2,3),(2,4),(3,4)]
def p4:List Int:=[0,1,1,0,-1,0]
theorem is4:jc 4 4=iK:=by decide
theorem is5:jc 5 5=gR:=by decide
theorem nw:Si.Val (4:Nat) iK:=by
 refine⟨by decide,by decide,by decide,fun j p hj=> ?_,fun j p q hp hq=> ?_⟩
 ·match j,hj with
  |0,hj=>cases hj;unfold Si.ok;decide
  |1,hj=>cases hj;unfold Si.ok;decide
  |2,hj=>cases hj;unfold Si.ok;decide
  |3,hj=>cases hj;unfold Si.ok;decide
  |4,hj=>cases hj;unfold Si.ok;decide
  |5,hj=>cases hj;unfold Si.ok;decide
 ·match j,hp,hq with
  |0,hp,hq=>cases hp;cases hq;unfold Si.lt;decide
  |1,hp,hq=>cases hp;cases hq;unfold Si.lt;decide
  |2,hp,hq=>cases hp;cases hq;unfold Si.lt;decide
  |3,hp,hq=>cases hp;cases hq;unfold Si.lt;decide
  |4,hp,hq=>cases hp;cases hq;unfold Si.lt;decide
theorem Gn:Si.Val (5:Nat) gR:=by
 refine⟨by decide,by decide,by decide,fun j p hj=> ?_,fun j p q hp hq=> ?_⟩
 ·match j,hj with
  |0,hj=>cases hj;unfold Si.ok;decide
  |1,hj=>cases hj;unfold Si.ok;decide
  |2,hj=>cases hj;unfold Si.ok;decide
  |3,hj=>cases hj;unfold Si.ok;decide
  |4,hj=>cases hj;unfold Si.ok;decide
  |5,hj=>cases hj;unfold Si.ok;decide
  |6,hj=>cases hj;unfold Si.ok;decide
  |7,hj=>cases hj;unfold Si.ok;decide
  |8,hj=>cases hj;unfold Si.ok;decide
  |9,hj=>cases hj;unfold Si.ok;decide
 ·match j,hp,hq with
  |0,hp,hq=>cases hp;cases hq;unfold Si.lt;decide
  |1,hp,hq=>cases hp;cases hq;unfold Si.lt;decide
  |2,hp,hq=>cases hp;cases hq;unfold Si.lt;decide
  |3,hp,hq=>cases hp;cases hq;unfold Si.lt;decide
  |4,hp,hq=>cases hp;cases hq;unfold Si.lt;decide
  |5,hp,hq=>cases hp;cases hq;unfold Si.lt;decide
  |6,hp,hq=>cases hp;cases hq;unfold Si.lt;decide
  |7,hp,hq=>cases hp;cases hq;unfold Si.lt;decide
  |8,hp,hq=>cases hp;cases hq;unfold Si.lt;decide
theorem JJ:Wk 4 iK 4 s4:=by
 obtain⟨k1,h1⟩:=Ml (es:=iK) 30 (s:=(St.start 4 iK.length).reach 0 (-1) 0) (L:=Cs.out iK 0 (2*iK.length)) (s':=s4) (by decide)
 exact .pass (.pass (.pass (.walk .zero (by decide) h1) (by decide)) (by decide)) (by decide)
theorem CL:VF 4 iK s4:=JJ.vf nw
theorem ZO:nK iK s4 p4:=by
 refine⟨by decide,fun e he=> ?_⟩
 match e,he with
 |0,_=>decide
 |1,_=>decide
 |2,_=>decide
 |3,_=>decide
 |4,_=>decide
 |5,_=>decide
theorem FQ {b:Nat} (hb:b<6) (tb:Lo.tree iK s4 b=false):b=1∨b=2∨b=4:=by
 match b,hb with
 |0,_=>exact absurd tb (by decide)
 |1,_=>exact .inl rfl
 |2,_=>exact .inr (.inl rfl)
 |3,_=>exact absurd tb (by decide)
 |4,_=>exact .inr (.inr rfl)
 |5,_=>exact absurd tb (by decide)
theorem Yp:at_ s4.az (Lo.bJ iK s4 1)=0∧at_ s4.az (Lo.bJ iK s4 2)=0∧at_ s4.az (Lo.bJ iK s4 4)=1:=by decide
theorem lr4 (sd:Nat→Bool):(Lr.df nw CL).LR sd:=by
 have h0:∀{b f:Nat},b<6→Lo.tree iK s4 b=false→(Lr.df nw CL).lN b f→b=4:=fun {b f} hb tb ⟨d,hd,hlt⟩=>by
  have xu:=((Lr.df nw CL).low _ ((Lr.df nw CL).lt d hd.1).2).1
  have h4:=Yp
  have e1:(Lr.df nw CL).az ((Lr.df nw CL).go b)=at_ s4.az (Lo.bJ iK s4 b):=rfl
  rw[e1] at hlt
  rcases FQ hb tb with rfl|rfl|rfl
  ·omega
  ·omega
  ·rfl
 refine⟨fun {e f b c} he hf hne hfr hb hc ab ac=> ?_,fun {e f b c} he hf hne hfr hb ab hc ac=> ?_⟩
 ·rw[h0 hb.1 hb.2.1 ab,h0 hc.1 hc.2.1 ac]
 ·exfalso
  obtain rfl:=h0 hb.1 hb.2.1 ab
  obtain rfl:=h0 hc.1 hc.2.1 ac
  have key:∀{x:Nat},x<6→(Lr.df nw CL).aX x 4→x=4∨x=5:=fun {x} hx hr=>by
   rcases hr.2.2 with q|⟨q1,_,q3⟩
   ·exact .inl q
   ·have Ke:Lo.tree iK s4 x=true:=q1
    have q3':at_ s4.az (Lo.bJ iK s4 4)<at_ s4.az (Lo.fr iK s4 x):=q3
    match x,hx with
    |0,_=>exact absurd q3' (by decide)
    |1,_=>exact absurd Ke (by decide)
    |2,_=>exact absurd Ke (by decide)
    |3,_=>exact absurd q3' (by decide)
    |4,_=>exact .inl rfl
    |5,_=>exact .inr rfl
  have Yo:Lo.fr iK s4 e=Lo.fr iK s4 f:=hfr
  rcases key he hb with rfl|rfl<;>rcases key hf hc with rfl|rfl
  ·exact hne rfl
  ·exact absurd Yo (by decide)
  ·exact absurd Yo (by decide)
  ·exact hne rfl
theorem al4:(Lr.df nw CL).Aligned (sV p4):=by
 intro e b c he te hb hc
 have hh:=DF.Qo hb hc
 have h4:=Yp
 have e1:at_ s4.az (Lo.bJ iK s4 b)=at_ s4.az (Lo.bJ iK s4 c):=hh
 rcases FQ hb.1.1 hb.1.2.1 with rfl|rfl|rfl<;>rcases FQ hc.1.1 hc.1.2.1 with rfl|rfl|rfl<;>first|rfl|omega
theorem ZA {s:St} {r:Option (List Int)} (hs:Wk 4 iK 4 s) (h:gO 4 iK s r):r.isSome=true:=by
 obtain rfl:=hs.unique JJ
 obtain⟨r',h1,h2⟩:=gO.ex nw CL
 obtain rfl:=h.unique h1
 rcases h2 with ⟨_,q⟩|⟨sd,q,_⟩
 ·exact absurd (lr4 fun _=>true) (q _)
 ·rw[q];rfl
def s5:St:=⟨[-1,0,8,14,18],[0,1,2,3,4],[0,1,2,3,4],[0,3,5,7,8,11,13,14,17,18]⟩
theorem PD:Wk 5 gR 5 s5:=by
 obtain⟨k1,h1⟩:=Ml (es:=gR) 40 (s:=(St.start 5 gR.length).reach 0 (-1) 0) (L:=Cs.out gR 0 (2*gR.length)) (s':=s5) (by decide)
 exact .pass (.pass (.pass (.pass (.walk .zero (by decide) h1) (by decide)) (by decide)) (by decide)) (by decide)
theorem Zy:VF 5 gR s5:=PD.vf Gn
theorem no5 (sd:Nat→Bool):¬(Lr.df Gn Zy).LR sd:=fun h=>by
 obtain⟨T,hT⟩:∃T,T=Lr.df Gn Zy:=⟨_,rfl⟩
 rw[←hT] at h
 have ht:∀e,T.tree e=Lo.tree gR s5 e:=fun e=>by rw[hT];rfl
 have hf:∀e,T.fr e=Lo.fr gR s5 e:=fun e=>by rw[hT];rfl
 have hg:∀e,T.go e=Lo.bJ gR s5 e:=fun e=>by rw[hT];rfl
 have hh:∀z,T.az z=at_ s5.az z:=fun z=>by rw[hT];rfl
 have own:∀b,b<gR.length→Lo.tree gR s5 b=false→T.aX b b:=fun b hb tb=>⟨hb,by rw[ht];exact tb,.inl rfl⟩
 have r9:∀b,b<gR.length→Lo.tree gR s5 b=false→Lo.fr gR s5 b=4→at_ s5.az (Lo.bJ gR s5 b)<3→T.aX 9 b:=fun b hb tb fb lb=>by
  refine⟨hb,by rw[ht];exact tb,.inr ⟨by rw[ht];decide,?_,?_⟩⟩
  ·rw[hg,hf,fb,show Lo.bJ gR s5 9=4 by decide]
   exact T.refl 4 (by decide)
  ·rw[hg,hf,hh,hh,show at_ s5.az (Lo.fr gR s5 9)=3 by decide]
   exact lb
 have a34:T.bQ 3 4:=by
  have:=(T.dN 9 (by decide) (by rw[ht];decide)).2
  rw[hf,hg,show Lo.fr gR s5 9=3 by decide,show Lo.bJ gR s5 9=4 by decide] at this
  exact this
 have r7:∀b,b<gR.length→Lo.tree gR s5 b=false→(Lo.fr gR s5 b=3∨Lo.fr gR s5 b=4)→at_ s5.az (Lo.bJ gR s5 b)<2→T.aX 7 b:=fun b hb tb fb lb=>by
  refine⟨hb,by rw[ht];exact tb,.inr ⟨by rw[ht];decide,?_,?_⟩⟩
  ·rw[hg,hf,show Lo.bJ gR s5 7=3 by decide]
   rcases fb with q|q<;>rw[q]
   ·exact T.refl 3 (by decide)
   ·exact a34
  ·rw[hg,hf,hh,hh,show at_ s5.az (Lo.fr gR s5 7)=2 by decide]
   exact lb
 have ab:∀b f c,T.aX f c→at_ s5.az (Lo.bJ gR s5 c)<at_ s5.az (Lo.bJ gR s5 b)→T.lN b f:=fun b f c hc hlt=>⟨c,hc,by rw[hg,hg,hh,hh];exact hlt⟩
 have n5:=own 5 (by decide) (by decide)
 have q1:sd 6=sd 8:=h.same (e:=9) (f:=2) (by decide) (by decide) (by decide) (by rw[hf,hf];decide) (r9 6 (by decide) (by decide) (by decide) (by decide)) (r9 8 (by decide) (by decide) (by decide) (by decide)) (ab 6 2 2 (own 2 (by decide) (by decide)) (by decide)) (ab 8 2 2 (own 2 (by decide) (by decide)) (by decide))
 have q2:sd 8≠sd 5:=h.EM (e:=9) (f:=5) (by decide) (by decide) (by decide) (by rw[hf,hf];decide) (r9 8 (by decide) (by decide) (by decide) (by decide)) (ab 8 5 5 n5 (by decide)) n5 (ab 5 9 3 (r9 3 (by decide) (by decide) (by decide) (by decide)) (by decide))
 have q3:sd 5=sd 6:=h.same (e:=7) (f:=1) (by decide) (by decide) (by decide) (by rw[hf,hf];decide) (r7 5 (by decide) (by decide) (by decide) (by decide)) (r7 6 (by decide) (by decide) (by decide) (by decide)) (ab 5 1 1 (own 1 (by decide) (by decide)) (by decide)) (ab 6 1 1 (own 1 (by decide) (by decide)) (by decide))
 exact q2 (by rw[←q1,←q3])
theorem Zz {s:St} {r:Option (List Int)} (hs:Wk 5 gR 5 s) (h:gO 5 gR s r):r.isSome=false:=by
 obtain rfl:=hs.unique PD
 obtain⟨r',h1,h2⟩:=gO.ex Gn Zy
 obtain rfl:=h.unique h1
 rcases h2 with ⟨q,_⟩|⟨sd,q,q1,_⟩
 ·rw[q];rfl
 ·exact absurd q1 (no5 sd)
end Lw
end
end Go.Proofs.YtdjmnpmdmjclhabGreat
