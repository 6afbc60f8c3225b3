import Derived.Test.YtbhdibflpjhpaaaGreatMg14
namespace Go.Proofs.YtbhdibflpjhpaaaGreat
section
namespace Pl
namespace DF
variable {n m:Nat} {T:DF n m} {sd:Nat->Bool}
theorem YE {w z:Nat} (hw:w<n) (hz:z<n) (h:T.bP w z) (hne:w≠z):∃e,e<m/\T.tree e=true/\T.go e=z/\T.ay w<=T.ay (T.fr e):=by
 have step:∀(d:Nat) (k:Nat),k<m->T.tree k=true->T.bP (T.go k) z->T.ay w<=T.ay (T.fr k)->T.ay z<=T.ay (T.go k)+d->∃e,e<m/\T.tree e=true/\T.go e=z/\T.ay w<=T.ay (T.fr e):=by
  intro d
  induction d with
  |zero=>
   intro k hk tk ak hh hd;by_cases e1:T.go k=z
   .exact⟨k,hk,tk,e1,hh⟩
   .have:=T.up (T.lt k hk).2 hz ak e1
    omega
  |succ d ih=>
   intro k hk tk ak hh hd;by_cases e1:T.go k=z
   .exact⟨k,hk,tk,e1,hh⟩
   .obtain⟨k',hk',JQ,OO,Xe⟩:=T.child (T.lt k hk).2 hz ak e1
    have e2:=(T.bS k hk tk).1;have e3:=(T.bS k' hk' JQ).1;rw[OO] at e3;exact ih k' hk' JQ Xe (by rw[OO];omega) (by omega)
 obtain⟨k,hk,tk,fk,ak⟩:=T.child hw hz h hne;refine step n k hk tk ak (by rw[fk];omega) ?_;have:=T.low z hz;have:=T.low _ (T.lt k hk).2;omega
def hst (T:DF n m) (b e:Nat):Prop:=T.bu e b/\∀b',T.bu e b'->T.ay (T.go b')<=T.ay (T.go b)
theorem P9 {e b:Nat} (rb:T.bu e b):∃c,T.bT c e:=by
 obtain⟨y,h1,h2⟩:=zR (P:=fun b=>T.bu e b) (f:=fun b=>(T.ay (T.go b)).toNat) _ b rb (aad _);refine⟨y,h1,fun b' rb'=> ?_⟩;have:=h2 b' rb';have:=T.low _ (T.lt y h1.1).2;have:=T.low _ (T.lt b' rb'.1).2;omega
theorem IE {e b:Nat} (rb:T.bu e b):∃c,T.hst c e:=by
 obtain⟨y,h1,h2⟩:=zR (P:=fun b=>T.bu e b) (f:=fun b=>((n:Int)-T.ay (T.go b)).toNat) _ b rb (aad _);refine⟨y,h1,fun b' rb'=> ?_⟩;have:=h2 b' rb';have:=T.low _ (T.lt y h1.1).2;have:=T.low _ (T.lt b' rb'.1).2;omega
open Classical in
noncomputable def lo (T:DF n m) (e:Nat):Int:=if h:∃b,T.bT b e then T.ay (T.go (Classical.choose h)) else T.ay (T.fr e)
open Classical in
noncomputable def hi (T:DF n m) (e:Nat):Int:=if h:∃b,T.hst b e then T.ay (T.go (Classical.choose h)) else T.ay (T.fr e)
theorem Qa {b e:Nat} (h:T.bT b e):T.lo e=T.ay (T.go b):=by
 have hex:∃b,T.bT b e:=⟨b,h⟩;unfold lo;rw[dif_pos hex];exact Dt (acI hex) h
theorem Qu {b e:Nat} (h:T.hst b e):T.hi e=T.ay (T.go b):=by
 have hex:∃b,T.hst b e:=⟨b,h⟩;unfold hi;rw[dif_pos hex];have h':=acI hex;have:=h.2 _ h'.1;have:=h'.2 _ h.1;omega
open Classical in
noncomputable def xY (T:DF n m) (sd:Nat->Bool) (e:Nat):Bool:=decide (∃b,T.hst b e/\sd b=true)
noncomputable def zM (T:DF n m) (e:Nat):Int:=2*T.lo e+if T.lo e<T.hi e then 1 else 0
noncomputable def key (T:DF n m) (sd:Nat->Bool) (e:Nat):Int:=if T.xY sd e=true then T.zM e else -1-T.zM e
noncomputable def ord (T:DF n m) (sd:Nat->Bool) (e f:Nat):Bool:=decide (T.key sd e<T.key sd f\/(T.key sd e=T.key sd f/\e<f))
theorem qy {e f:Nat} (hne:e≠f):T.ord sd e f= !T.ord sd f e:=by
 unfold ord;by_cases k:T.key sd e<T.key sd f\/(T.key sd e=T.key sd f/\e<f)
 .rw[decide_eq_true k,decide_eq_false (by omega)];rfl
 .rw[decide_eq_false k,decide_eq_true (by omega)];rfl
theorem AQ {e:Nat} (he:e<m):0<=T.zM e:=by
 have:0<=T.lo e:=by
  unfold lo
  split
  .rename_i h
   exact(T.low _ (T.lt _ (acI h).1.1).2).1
  .exact(T.low _ (T.lt e he).1).1
 unfold zM
 split<;>omega
theorem Kf {e f:Nat} (he:e<m) (hf:f<m) (h:T.xY sd e≠T.xY sd f):T.ord sd e f=T.xY sd f:=by
 have e0:=T.AQ he;have f0:=T.AQ hf;unfold ord key;cases k1:T.xY sd e<;>cases k2:T.xY sd f
 .rw[k1,k2] at h;exact absurd rfl h
 .simp;omega
 .simp;omega
 .rw[k1,k2] at h;exact absurd rfl h
open Classical in
theorem B8 {f c:Nat} (rc:T.bu f c) (h:∀c',T.bu f c'->T.ay (T.go c)<=T.ay (T.go c')->sd c'=sd c):T.xY sd f=sd c:=by
 unfold xY;cases hs:sd c with
 |true=>
  obtain⟨x,hx⟩:=T.IE rc;exact decide_eq_true ⟨x,hx,by rw[h x hx.1 (hx.2 c rc),hs]⟩
 |false=>
  refine decide_eq_false ?_;rintro⟨x,hx,hs'⟩;rw[h x hx.1 (hx.2 c rc),hs] at hs';cases hs'
theorem QX {b c e:Nat} (h:T.jF b e) (hh:T.ay (T.go b)<=T.ay (T.go c)):T.jF c e:=by
 obtain⟨x,rx,hx⟩:=h;exact⟨x,rx,by omega⟩
theorem Ie (h:T.LR sd) {e f c:Nat} (he:e<m) (hf:f<m) (hne:e≠f) (hfr:T.fr e=T.fr f) (rc:T.bu f c) (ac:T.jF c e):T.ord sd e f=sd c:=by
 have sf:T.xY sd f=sd c:=B8 rc fun c' rc' hh=>h.same hf he (aao hne) hfr.symm rc' rc (QX ac hh) ac
 by_cases hsg:T.xY sd e=T.xY sd f
 .obtain⟨b,rb,hb⟩:=ac
  obtain⟨l,hl⟩:=T.P9 rb;obtain⟨x,hx⟩:=T.IE rb;obtain⟨l',hl'⟩:=T.P9 rc;obtain⟨x',hx'⟩:=T.IE rc;have n1:¬T.jF x f:=fun k=>by
   have sx:T.xY sd e=sd x:=B8 hx.1 fun x' rx' hh=>h.same he hf hne hfr rx' hx.1 (QX k hh) k
   exact h.Hh he hf hne hfr hx.1 k rc ⟨b,rb,hb⟩ (by rw[<-sx,hsg,sf])
  have g1:T.ay (T.go x)<=T.ay (T.go l'):=Int.not_lt.1 fun k=>n1 ⟨l',hl'.1,k⟩
  have g2:=hl.2 x hx.1;have g3:=hx'.2 c rc;have g4:=hl.2 b rb;have e1:=Qa hl;have e2:=Qu hx;have e3:=Qa hl';have e4:=Qu hx';have lt:T.zM e<T.zM f:=by
   unfold zM
   split<;>split<;>omega
  unfold ord key;rw[hsg,sf];cases sd c
  .simp;omega
  .simp;omega
 .rw[Kf he hf hsg,sf]
theorem Nr (h:T.LR sd) {e f b:Nat} (he:e<m) (hf:f<m) (hne:e≠f) (hfr:T.fr e=T.fr f) (rb:T.bu e b) (ab:T.jF b f):T.ord sd e f= !sd b:=by
 rw[qy hne,Ie h hf he (aao hne) hfr.symm rb ab]
theorem Em (ha:T.Aligned sd) {e f b b' c:Nat} (he:e<m) (n1:¬ ∃b,T.bu e b/\T.jF b f) (n2:¬ ∃c,T.bu f c/\T.jF c e) (rb:T.bu e b) (rb':T.bu e b') (rc:T.bu f c):sd b=sd b':=by
 have h1:∀b,T.bu e b->T.ay (T.go b)=T.ay (T.go c):=fun b rb=>by
  have k1:¬T.ay (T.go c)<T.ay (T.go b):=fun k=>n1 ⟨b,rb,c,rc,k⟩
  have k2:¬T.ay (T.go b)<T.ay (T.go c):=fun k=>n2 ⟨c,rc,b,rb,k⟩
  omega
 have l:∀b,T.bu e b->T.bT b e:=fun b rb=>⟨rb,fun b' rb'=>by rw[h1 b rb,h1 b' rb'];exact adA _⟩
 cases te:T.tree e with
 |true=>exact ha he te (l b rb) (l b' rb')
 |false=>
  obtain⟨_,_,k|⟨k,_⟩⟩:=rb
  .obtain⟨_,_,k'|⟨k',_⟩⟩:=rb'
   .rw[<-k,<-k']
   .rw[te] at k';cases k'
  .rw[te] at k;cases k
theorem RO (ha:T.Aligned sd) {e f b c:Nat} (he:e<m) (hf:f<m) (n1:¬ ∃b,T.bu e b/\T.jF b f) (n2:¬ ∃c,T.bu f c/\T.jF c e) (rb:T.bu e b) (rc:T.bu f c) (hne:sd b≠sd c):T.ord sd e f=sd c:=by
 have se:T.xY sd e=sd b:=B8 rb fun b' rb' _=>Em ha he n1 n2 rb' rb rc
 have sf:T.xY sd f=sd c:=B8 rc fun c' rc' _=>Em ha hf n2 n1 rc' rc rb
 rw[Kf he hf (by rw[se,sf];exact hne),sf]
theorem FK (h:T.LR sd) (ha:T.Aligned sd) {d d' b c c':Nat} (hd:d<m) (hd':d'<m) (hfr:T.fr d=T.fr d') (lb:T.bT b d) (lc:T.bT c d') (hg:T.go b=T.go c) (hs:sd b≠sd c) (rc':T.bu d' c') (hc':T.ay (T.go c)<T.ay (T.go c')):sd c'=sd c:=by
 have lZ:=lb.1.1;have tb:=lb.1.2.1;have hcm:=lc.1.1;have tc:=lc.1.2.1;obtain⟨bf,bg⟩:=T.lt b lZ;obtain⟨cf,cg⟩:=T.lt c hcm;have yn:=(T.lt d hd).1;have ob:=ig lZ tb hd lb.1.bL;have oc:=ig hcm tc hd' lc.1.bL;rw[<-hfr] at oc;have l1:=lb.1.lt;have l2:=rc'.lt;have hgh:T.ay (T.go b)=T.ay (T.go c):=by rw[hg]
 obtain⟨e,he,te,ge,_⟩:=YE bg yn ob.1 (fun k=>by rw[k] at l1;omega);have e1:=(T.bS e he te).1;rw[<-hfr] at l2;rw[ge] at e1;have rb:T.bu e b:=⟨lZ,tb,.inr ⟨te,by rw[ge];exact ob.2,by omega⟩⟩;have rc:T.bu e c:=⟨hcm,tc,.inr ⟨te,by rw[ge];exact oc.2,by omega⟩⟩;by_cases hx:∃b',T.bu e b'/\T.ay (T.go b')<T.ay (T.go b)
 .obtain⟨b',rb',hb'⟩:=hx
  have Lf:=rb'.1;have tb':=rb'.2.1;obtain⟨a1,a2⟩:=jr te rb';rw[ge] at a1;have on:T.On b' (T.fr d):=⟨T.cmp (T.lt b' Lf).2 yn (T.lt b' Lf).1 (T.back b' Lf tb').1 a1 (by omega),a1⟩;obtain⟨x,hx,x1,x2⟩:=kV Lf yn on;have rx:T.bu x b':=rC Lf tb' x1 (by rw[x2];omega);have xd':d'≠x:=fun k=>by
   rw[<-k] at rx;have:=lc.2 b' rx;omega
  exact h.same hd' hx xd' (by rw[x2,hfr]) rc' lc.1 ⟨b',rx,by omega⟩ ⟨b',rx,by omega⟩
 .exfalso
  have low:∀b',T.bu e b'->T.ay (T.go b)<=T.ay (T.go b'):=fun b' rb'=>Int.not_lt.1 fun k=>hx ⟨b',rb',k⟩
  exact hs (ha he te ⟨rb,low⟩ ⟨rc,fun b' rb'=>by have:=low b' rb';omega⟩)
theorem tie (h:T.LR sd) (ha:T.Aligned sd) {d d' b c:Nat} (hd:d<m) (hd':d'<m) (hne:d≠d') (hfr:T.fr d=T.fr d') (rb:T.bu d b) (rc:T.bu d' c) (hg:T.go b=T.go c) (hs:sd b≠sd c):T.ord sd d d'=sd c:=by
 have hgh:T.ay (T.go b)=T.ay (T.go c):=by rw[hg]
 have nb:(!sd b)=sd c:=by cases k1:sd b<;>cases k2:sd c<;>simp[k1,k2] at hs ⊢
 by_cases a1:T.jF c d
 .exact Ie h hd hd' hne hfr rc a1
 .by_cases a2:T.jF b d'
  .rw[Nr h hd hd' hne hfr rb a2,nb]
  .have lb:T.bT b d:=⟨rb,fun b' rb'=>by
    have:¬T.ay (T.go b')<T.ay (T.go c):=fun k=>a1 ⟨b',rb',k⟩
    omega⟩
   have lc:T.bT c d':=⟨rc,fun c' rc'=>by
    have:¬T.ay (T.go c')<T.ay (T.go b):=fun k=>a2 ⟨c',rc',k⟩
    omega⟩
   by_cases x1:∃c',T.bu d' c'/\T.jF c' d
   .obtain⟨c',rc',b',rb',k⟩:=x1
    have:=lb.2 b' rb';rw[Ie h hd hd' hne hfr rc' ⟨b',rb',k⟩];exact FK h ha hd hd' hfr lb lc hg hs rc' (by omega)
   .by_cases x2:∃b',T.bu d b'/\T.jF b' d'
    .obtain⟨b',rb',c',rc',k⟩:=x2
     have:=lc.2 c' rc';rw[Nr h hd hd' hne hfr rb' ⟨c',rc',k⟩,FK h ha hd' hd hfr.symm lc lb hg.symm (aao hs) rb' (by omega),nb]
    .exact RO ha hd hd' x2 x1 rb rc hs
end DF
end Pl
end
section
namespace Pl
namespace DF
variable {n m:Nat} {T:DF n m} {sd:Nat->Bool}
open Classical in
noncomputable def dn (T:DF n m) (b:Nat):Nat:=if h:∃t,t<m/\T.bL b t=true/\T.fr t=T.go b then Classical.choose h else 0
theorem qQ {b:Nat} (hb:b<m) (tb:T.tree b=false):T.dn b<m/\T.bL b (T.dn b)=true/\T.fr (T.dn b)=T.go b:=by
 have bg:=(T.lt b hb).2;have h:=kV hb bg ⟨T.refl _ bg,(T.back b hb tb).1⟩;unfold dn;rw[dif_pos h];exact acI h
theorem Cl {b t:Nat} (hb:b<m) (tb:T.tree b=false) (ht:t<m) (h1:T.bL b t=true) (h2:T.fr t=T.go b):t=T.dn b:=by
 obtain⟨k1,k2,k3⟩:=qQ hb tb;exact gG hb ht k1 h1 k2 (h2.trans k3.symm)
open Classical in
noncomputable def od (T:DF n m) (sd:Nat->Bool) (b c:Nat):Bool:=decide (∃d d',d<m/\d'<m/\T.bL b d=true/\T.bL c d'=true/\T.fr d=T.fr d'/\d≠d'/\T.ord sd d d'=true)
open Classical in
theorem Ih {b c d d':Nat} (hb:b<m) (hc:c<m) (tb:T.tree b=false) (tc:T.tree c=false) (hd:d<m) (hd':d'<m) (h1:T.bL b d=true) (h2:T.bL c d'=true) (h3:T.fr d=T.fr d') (h4:d≠d'):T.od sd b c=T.ord sd d d':=by
 unfold od;cases k:T.ord sd d d' with
 |true=>exact decide_eq_true ⟨d,d',hd,hd',h1,h2,h3,h4,k⟩
 |false=>
  refine decide_eq_false ?_;rintro⟨x,x',k1,k2,k3,k4,k5,k6,k7⟩;obtain⟨rfl,rfl⟩:=qo hb hc tb tc hd hd' k1 k2 h1 h2 h3 h4 k3 k4 k5 k6;rw[k] at k7;cases k7
noncomputable def wf (T:DF n m) (sd:Nat->Bool) (e f:Nat):Bool:=
 if e=f then true
 else if T.fr e=T.fr f then T.ord sd e f
 else if T.fr e=T.go f then (if T.tree f=true then false else if e=T.dn f then sd f else T.ord sd e (T.dn f))
 else if T.go e=T.fr f then (if T.tree e=true then true else if f=T.dn e then !sd e else T.ord sd (T.dn e) f)
 else if T.go e=T.go f then (if T.tree e=true then true else if T.tree f=true then false else if T.dn e=T.dn f then (if sd e=sd f then !T.od sd e f else sd f) else T.ord sd (T.dn e) (T.dn f))
 else false
section
variable {e f:Nat} (he:e<m) (hf:f<m) (hne:e≠f)
theorem MC (hne:e≠f) (h:T.fr e=T.fr f):T.wf sd e f=T.ord sd e f:=by
 unfold wf;rw[if_neg hne,if_pos h]
include hf hne in
theorem MD (h:T.fr e=T.go f):T.wf sd e f=(if T.tree f=true then false else if e=T.dn f then sd f else T.ord sd e (T.dn f)):=by
 unfold wf;rw[if_neg hne,if_neg (fun k=>T.ne hf (by rw[<-k,h])),if_pos h]
include he hf hne in
theorem TG (h:T.go e=T.fr f):T.wf sd e f=(if T.tree e=true then true else if f=T.dn e then !sd e else T.ord sd (T.dn e) f):=by
 unfold wf;rw[if_neg hne,if_neg (fun k=>T.ne he (by rw[k,h])),if_neg (fun k=>(T.simple e f he hf hne).2 ⟨k,h⟩),if_pos h]
include he hf hne in
theorem He (h:T.go e=T.go f):T.wf sd e f=(if T.tree e=true then true else if T.tree f=true then false else if T.dn e=T.dn f then (if sd e=sd f then !T.od sd e f else sd f) else T.ord sd (T.dn e) (T.dn f)):=by
 unfold wf;rw[if_neg hne,if_neg (fun k=>(T.simple e f he hf hne).1 ⟨k,h⟩),if_neg (fun k=>T.ne he (by rw[k,h])),if_neg (fun k=>T.ne hf (by rw[<-k,h])),if_pos h]
end
theorem Ub {b c:Nat} (hb:b<m) (hc:c<m) (tb:T.tree b=false) (tc:T.tree c=false) (hbc:b≠c) (hg:T.go b=T.go c):∃d d',d<m/\d'<m/\T.bL b d=true/\T.bL c d'=true/\T.fr d=T.fr d'/\d≠d':=by
 have bg:=(T.lt b hb).2;obtain⟨d,d',h1,h2,h3,h4,h5,h6,_⟩:=Ka hb hc tb hbc n (T.go b) bg (by have:=(T.low _ bg).1;omega) ⟨T.refl _ bg,(T.back b hb tb).1⟩ (by rw[hg];exact⟨T.refl _ (T.lt c hc).2,(T.back c hc tc).1⟩);exact⟨d,d',h1,h2,h3,h4,h5,h6⟩
theorem Pv:Pre T (T.wf sd):=by
 have no:∀{e:Nat},¬T.tree e=true->T.tree e=false:=fun {e} k=>by cases h:T.tree e<;>simp[h] at k ⊢
 refine⟨fun e _=>by unfold wf;rw[if_pos rfl],fun e f he hf hne hm=> ?_,fun e f he hf hne hm=> ?_⟩
 .unfold wf
  rw[if_neg hne,if_neg (fun k=>hm (.inl k)),if_neg (fun k=>hm (.inr (.inl k))),if_neg (fun k=>hm (.inr (.inr (.inl k)))),if_neg (fun k=>hm (.inr (.inr (.inr k))))]
 .have key:∀{e f:Nat},e<m->f<m->e≠f->T.fr e=T.go f->T.wf sd e f= !T.wf sd f e:=fun {e f} he hf hne k=>by
   rw[MD hf hne k,TG hf he (aao hne) k.symm];by_cases tf:T.tree f=true
   .rw[if_pos tf,if_pos tf];rfl
   .rw[if_neg tf,if_neg tf]
    by_cases k2:e=T.dn f
    .rw[if_pos k2,if_pos k2];simp
    .rw[if_neg k2,if_neg k2]
     obtain⟨d1,_,d3⟩:=qQ hf (no tf);exact qy k2
  rcases hm with k|k|k|k
  .rw[MC hne k,MC (aao hne) k.symm]
   exact qy hne
  .exact key he hf hne k
  .have:=key hf he (aao hne) k.symm
   rw[this];simp
  .rw[He he hf hne k,He hf he (aao hne) k.symm]
   by_cases te:T.tree e=true
   .have tf:¬T.tree f=true:=fun tf=>hne (T.one e f he hf te tf k)
    rw[if_pos te,if_neg tf,if_pos te];rfl
   .by_cases tf:T.tree f=true
    .rw[if_neg te,if_pos tf,if_pos tf];rfl
    .rw[if_neg te,if_neg tf,if_neg tf,if_neg te]
     obtain⟨d1,_,d3⟩:=qQ he (no te);obtain⟨f1,_,f3⟩:=qQ hf (no tf);by_cases k2:T.dn e=T.dn f
     .rw[if_pos k2,if_pos k2.symm]
      by_cases k3:sd e=sd f
      .rw[if_pos k3,if_pos k3.symm]
       obtain⟨d,d',h1,h2,h3,h4,h5,h6⟩:=Ub he hf (no te) (no tf) hne k;rw[Ih he hf (no te) (no tf) h1 h2 h3 h4 h5 h6,Ih hf he (no tf) (no te) h2 h1 h4 h3 h5.symm (aao h6),qy h6]
      .rw[if_neg k3,if_neg (aao k3)]
       cases q1:sd e<;>cases q2:sd f<;>simp[q1,q2] at k3 ⊢
     .rw[if_neg k2,if_neg (aao k2)]
      exact qy k2
theorem G9 {e f v:Nat} (he:e<m) (hf:f<m) (hne:e≠f) (h1:inc T.fr T.go e v=true) (h2:inc T.fr T.go f v=true) (h3:¬(T.tree e=true/\T.go e=v)) (h4:¬(T.tree f=true/\T.go f=v)):sw T (T.wf sd) e f=T.wf sd e f:=by
 by_cases hv:∃p,p<m/\T.tree p=true/\T.go p=v
 .obtain⟨p,hp,tp,rfl⟩:=hv
  have key:∀{e:Nat},e<m->inc T.fr T.go e (T.go p)=true->¬(T.tree e=true/\T.go e=T.go p)->T.wf sd e p=false/\e≠p:=fun {e} he h1 h3=>by
   have e1:e≠p:=fun e1=>h3 (by rw[e1];exact⟨tp,rfl⟩)
   refine⟨?_,e1⟩;rcases au.1 h1 with k|k
   .rw[MD hp e1 k,if_pos tp]
   .rw[He he hp e1 k,if_neg (fun te=>h3 ⟨te,k⟩),if_pos tp]
  obtain⟨k1,k2⟩:=key he h1 h3;obtain⟨k3,k4⟩:=key hf h2 h4;rw[CQ hp tp he hf hne h1 h2,k1,k3,decide_eq_false k2];simp
 .exact CO he hf hne h1 h2 fun p hp tp e1=>hv ⟨p,hp,tp,e1⟩
theorem TH (h:T.LR sd) (ha:T.Aligned sd):sH m T.fr T.go (T.wf sd):=by
 refine WD Pv fun b c hb hc tb tc hbc=> ?_
 have hp:Pre T (T.wf sd):=Pv;rw[LC hp hb hc tb tc hbc];obtain⟨bf,bg⟩:=T.lt b hb;obtain⟨cf,cg⟩:=T.lt c hc;obtain⟨b1,b2⟩:=T.back b hb tb;obtain⟨c1,c2⟩:=T.back c hc tc;have onb:T.On b (T.go b):=⟨T.refl _ bg,b1⟩;have onc:T.On c (T.go c):=⟨T.refl _ cg,c1⟩;have ntb:¬T.tree b=true:=by rw[tb];decide
 have Nw:¬T.tree c=true:=by rw[tc];decide
 by_cases hz:∃z,z<n/\T.On b z/\T.On c z
 .obtain⟨z,IA,ob,oc⟩:=hz
  obtain⟨d,d',hd,hd',d1,d2,d3,d4,_⟩:=Ka hb hc tb hbc n z IA (by have:=(T.low z IA).1;omega) ob oc;have e1:oo T (sw T (T.wf sd)) b c=T.ord sd d d':=by
   rw[PZ hb hc tb tc hd hd' d1 d2 d3 d4,G9 hd hd' d4 (v:=T.fr d) (au.2 (.inl rfl)) (au.2 (.inl d3.symm)) (fun k=>T.ne hd k.2.symm) (fun k=>T.ne hd' (by rw[<-d3,k.2])),MC d4 d3]
  rw[e1];have Ys:∀{t c:Nat},t<m->c<m->T.tree c=false->T.fr t=T.go c->sw T (T.wf sd) t c=(if t=T.dn c then sd c else T.ord sd t (T.dn c))/\sw T (T.wf sd) c t=(if t=T.dn c then !sd c else T.ord sd (T.dn c) t):=fun {t c} ht hc tc k=>by
   have Rk:t≠c:=fun e=>T.ne hc (by rw[<-k,e])
   have Nw:¬T.tree c=true:=by rw[tc];decide
   refine⟨?_,?_⟩
   .rw[G9 ht hc Rk (v:=T.fr t) (au.2 (.inl rfl)) (au.2 (.inr k.symm)) (fun q=>T.ne ht q.2.symm) (fun q=>Nw q.1),MD hc Rk k,if_neg Nw]
   .rw[G9 hc ht (aao Rk) (v:=T.fr t) (au.2 (.inr k.symm)) (au.2 (.inl rfl)) (fun q=>Nw q.1) (fun q=>T.ne ht q.2.symm),TG hc ht (aao Rk) k.symm,if_neg Nw]
  have odb:=ig hb tb hd d1;have odc:=ig hc tc hd' d2;rw[<-d3] at odc;have yn:=(T.lt d hd).1;obtain⟨p1,p2,p3⟩:=qQ hb tb;obtain⟨q1,q2,q3⟩:=qQ hc tc;by_cases k:T.ay (T.go b)=T.ay (T.go c)
  .have hg:T.go b=T.go c:=T.same bg cg IA ob.1 oc.1 k
   rw[Ca hb p1 p2 (p3.trans hg),Qj hc q1 q2 (q3.trans hg.symm),decide_eq_true hg,(Ys p1 hc tc (p3.trans hg)).1,(Ys q1 hb tb (q3.trans hg.symm)).2];have e2:sw T (T.wf sd) b c=(if T.dn b=T.dn c then (if sd b=sd c then !T.od sd b c else sd c) else T.ord sd (T.dn b) (T.dn c)):=by
    rw[G9 hb hc hbc (v:=T.go b) (au.2 (.inr rfl)) (au.2 (.inr hg.symm)) (fun q=>ntb q.1) (fun q=>Nw q.1),He hb hc hbc hg,if_neg ntb,if_neg Nw]
   rw[e2];by_cases kd:T.dn b=T.dn c
   .rw[if_pos kd,if_pos kd.symm,if_pos kd]
    by_cases ks:sd b=sd c
    .rw[if_pos ks,Ih hb hc tb tc hd hd' d1 d2 d3 d4,ks]
     cases T.ord sd d d'<;>cases sd c<;>rfl
    .rw[if_neg ks]
     have hy:T.ay (T.go b)<T.ay (T.fr d):=by
      refine T.up bg yn odb.1 fun q=> ?_
      have x1:=Cl hb tb hd d1 q.symm;have x2:=Cl hc tc hd' d2 (by rw[<-d3,<-q,hg]);exact d4 (by rw[x1,x2,kd])
     rw[tie h ha hd hd' d4 d3 (rC hb tb d1 hy) (rC hc tc d2 (by rw[<-d3,<-hg];exact hy)) hg ks];cases q1:sd b<;>cases q2:sd c<;>simp[q1,q2] at ks ⊢
   .rw[if_neg kd,if_neg (aao kd),if_neg kd]
    obtain⟨x1,x2⟩:=qo hb hc tb tc hd hd' p1 q1 d1 d2 d3 d4 p2 q2 (by rw[p3,q3];exact hg) kd;rw[x1,x2];cases T.ord sd (T.dn b) (T.dn c)<;>rfl
  .rw[decide_eq_false (fun q=>k (by rw[q]))]
   by_cases kl:T.ay (T.go b)<T.ay (T.go c)
   .have on:T.On b (T.go c):=⟨T.cmp bg cg IA ob.1 oc.1 (by omega),T.trans oc.1 ob.2⟩
    obtain⟨t,ht,t1,t2⟩:=kV hb cg on;rw[Ca hb ht t1 t2,NR hc tc (fun q=>by have:=T.le cg bg q.1;omega),(Ys ht hc tc t2).1];by_cases kt:t=T.dn c
    .rw[if_pos kt]
     have hy:T.ay (T.go c)<T.ay (T.fr d):=by
      refine T.up cg yn odc.1 fun q=> ?_
      have x1:=gG hb hd ht d1 t1 (by rw[t2,q]);have x2:=Cl hc tc hd' d2 (by rw[<-d3,<-q]);exact d4 (by rw[x1,x2,kt])
     have rb:T.bu d b:=rC hb tb d1 (by omega);have rc:T.bu d' c:=rC hc tc d2 (by rw[<-d3];exact hy);rw[Ie h hd hd' d4 d3 rc ⟨b,rb,kl⟩];cases sd c<;>rfl
    .rw[if_neg kt]
     obtain⟨x1,x2⟩:=qo hb hc tb tc hd hd' ht q1 d1 d2 d3 d4 t1 q2 (by rw[t2,q3]) kt;rw[x1,x2];cases T.ord sd t (T.dn c)<;>rfl
   .have on:T.On c (T.go b):=⟨T.cmp cg bg IA oc.1 ob.1 (by omega),T.trans ob.1 oc.2⟩
    obtain⟨t,ht,t1,t2⟩:=kV hc bg on;rw[Qj hc ht t1 t2,Ug hb tb (fun q=>by have:=T.le bg cg q.1;omega),(Ys ht hb tb t2).2];by_cases kt:t=T.dn b
    .rw[if_pos kt]
     have hy:T.ay (T.go b)<T.ay (T.fr d):=by
      refine T.up bg yn odb.1 fun q=> ?_
      have x1:=Cl hb tb hd d1 q.symm;have x2:=gG hc hd' ht d2 t1 (by rw[t2,q,d3]);exact d4 (by rw[x1,x2,kt])
     have rb:T.bu d b:=rC hb tb d1 hy;have rc:T.bu d' c:=rC hc tc d2 (by rw[<-d3];omega);rw[Nr h hd hd' d4 d3 rb ⟨c,rc,by omega⟩];cases sd b<;>rfl
    .rw[if_neg kt]
     obtain⟨x1,x2⟩:=qo hb hc tb tc hd hd' p1 ht d1 d2 d3 d4 p2 t1 (by rw[t2,p3]) (fun q=>kt q.symm);rw[x1,x2];cases T.ord sd (T.dn b) t<;>rfl
 .have hz':∀z,z<n->¬(T.On b z/\T.On c z):=fun z IA k=>hz ⟨z,IA,k⟩
  rw[acg hb hc tb tc hz',Ug hb tb (fun k=>hz' _ cg ⟨k,onc⟩),NR hc tc (fun k=>hz' _ bg ⟨onb,k⟩),decide_eq_false (fun k=>hz' _ bg ⟨onb,by rw[k];exact onc⟩)];rfl
theorem PV (h:T.LR sd) (ha:T.Aligned sd):fD m T.fr T.go:=⟨_,TH h ha⟩
theorem T9:fD m T.fr T.go↔∃sd,T.LR sd/\T.Aligned sd:=
 ⟨fun ⟨_,h⟩=>L0 (acm h),fun ⟨_,h,ha⟩=>PV h ha⟩
end DF
end Pl
end
section
namespace Pl
namespace DF
variable {n m:Nat} {T:DF n m} {sd:Nat->Bool}
noncomputable def grp (T:DF n m) (v x:Nat):Nat:=if T.fr x=v then x else T.dn x
end DF
end Pl
end
section
namespace Pl
def fs (nx:Nat->Nat) (h:Nat):Nat:=nx (tw h)
theorem Dk {l:List Nat} (h:l.Nodup) {i j:Nat} (hi:i<l.length) (hj:j<l.length) (e:l[i]=l[j]):i=j:=by
 have:=acP.1 h;rcases ae5 i j with k|k|k
 .exact absurd e (this i j hi hj k)
 .exact k
 .exact absurd e.symm (this j i hj hi k)
section
end
namespace DF
variable {n m:Nat} {T:DF n m}
def Root (T:DF n m) (v:Nat):Prop:=∀e,e<m->T.tree e=true->T.go e≠v
end DF
end Pl
end
namespace Pl
def mJ:Nat->Nat:=fun e=>[0,2,3,4,1,1,4,2,2].getD e 0
def jI:Nat->Nat:=fun e=>[1,0,0,0,2,3,1,3,4].getD e 0
def rO:Nat->Bool:=fun e=>[true,false,true,false,true,false,false,false,true].getD e false
def jc:Nat->Int:=fun v=>[1,2,3,0,4].getD v 9
theorem Qh:∀u,u<5->∀v,v<5->jc u=jc v->u=v:=by decide
def k5:DF 5 9 where
 fr:=mJ
 go:=jI
 tree:=rO
 ay:=jc
 bP:=fun u v=>jc u<=jc v
 lt:=by decide
 refl:=fun _ _=>adA _
 trans:=fun h1 h2=>Int.le_trans h1 h2
 up:=fun {u v} hu hv h hne=>by
  have:jc u≠jc v:=fun e=>hne (Qh u hu v hv e)
  omega
 cmp:=fun _ _ _ _ _ h=>h
 bS:=by decide
 one:=fun e f he hf=>(by decide:∀e,e<9->∀f,f<9->rO e=true->rO f=true->jI e=jI f->e=f) e he f hf
 par:=fun {e a} he ha te h hne=>by
  have h1:∀e,e<9->rO e=true->jc (jI e)=jc (mJ e)+1/\jI e<5:=by decide
  obtain⟨h2,h3⟩:=h1 e he te;have:jc a≠jc (jI e):=fun e'=>hne (Qh a ha _ h3 e')
  show jc a<=jc (mJ e);have h':jc a<=jc (jI e):=h;omega
 back:=by decide
 child:=fun {w v} hw hv h hne=>by
  have key:∀w,w<5->∀v,v<5->jc w<=jc v->w≠v->((List.range 9).any fun k=>rO k&&(decide (mJ k=w)&&decide (jc (jI k)<=jc v)))=true:=by decide
  obtain⟨k,hk,h1⟩:=acR.1 (key w hw v hv h hne);have h2:rO k=true/\(mJ k=w/\jc (jI k)<=jc v):=by simpa using h1
  exact⟨k,ab1.1 hk,h2.1,h2.2.1,h2.2.2⟩
 simple:=fun e f he hf=>(by decide:∀e,e<9->∀f,f<9->e≠f->¬(mJ e=mJ f/\jI e=jI f)/\¬(mJ e=jI f/\jI e=mJ f)) e he f hf
 low:=by decide
def YP (e b:Nat):Bool:= !rO b&&(decide (e=b)||(rO e&&(decide (jc (jI e)<=jc (mJ b))&&decide (jc (jI b)<jc (mJ e)))))
def YQ (e f:Nat):Bool:=(List.range 9).any fun b=>YP e b&&(List.range 9).any fun x=>YP f x&&decide (jc (jI x)<jc (jI b))
theorem YR:fD 9 mJ jI:=by
 refine DF.PV (T:=k5) (sd:=fun _=>false) ⟨fun _ _ _ _ _ _ _ _=>rfl,fun {e f b c} he hf hne hfr rb ab rc ac=> ?_⟩ (fun _ _ _ _=>rfl);exfalso;have PM:∀{e b:Nat},k5.bu e b->b<9/\YP e b=true:=fun {e b} h=>by
  obtain⟨h1,h2,h3⟩:=h;refine⟨h1,?_⟩;have h2':rO b=false:=h2;unfold YP;rw[h2'];rcases h3 with h3|⟨h4,h5,h6⟩
  .simp[h3]
  .have h4':rO e=true:=h4
   have h5':jc (jI e)<=jc (mJ b):=h5;have h6':jc (jI b)<jc (mJ e):=h6;simp[h4',h5',h6']
 obtain⟨x,rx,hx⟩:=ab;obtain⟨y,ry,hy⟩:=ac;obtain⟨b1,b2⟩:=PM rb;obtain⟨c1,c2⟩:=PM rc;obtain⟨x1,x2⟩:=PM rx;obtain⟨y1,y2⟩:=PM ry;have hx':jc (jI x)<jc (jI b):=hx;have hy':jc (jI y)<jc (jI c):=hy;have aa6:mJ e=mJ f:=hfr;have a1:YQ e f=true:=acR.2 ⟨b,ab1.2 b1,by simp only[b2,aeG];exact acR.2 ⟨x,ab1.2 x1,by simp[x2,hx']⟩⟩;have a2:YQ f e=true:=acR.2 ⟨c,ab1.2 c1,by simp only[c2,aeG];exact acR.2 ⟨y,ab1.2 y1,by simp[y2,hy']⟩⟩;have key:∀e,e<9->∀f,f<9->e≠f->mJ e=mJ f->(YQ e f&&YQ f e)=false:=by decide
 have:=key e he f hf hne aa6;rw[a1,a2] at this;cases this
end Pl
section
namespace Pl
structure OC (n m:Nat) (p q:Nat->Nat) where
 V:Nat->Bool
 pe:Nat->Nat
 ne:Nat->Nat
 S:Nat->Bool
 lt:∀v,V v=true->v<n/\pe v<m/\ne v<m
 ip:∀v,V v=true->inc p q (pe v) v=true
 iq:∀v,V v=true->inc p q (ne v) v=true
 neq:∀v,V v=true->pe v≠ne v
 mem:∀v,V v=true->S (pe v)=true/\S (ne v)=true
 at_:∀e v,e<m->S e=true->inc p q e v=true->V v=true/\(e=pe v\/e=ne v)
 ano:∀v w,V v=true->V w=true->ne v=ne w->v=w
 ann:∀v w,V v=true->V w=true->pe v=pe w->v=w
 anm:∀X:Nat->Bool,px n (fun v=>V v&&X (ne v))=px m (fun e=>S e&&X e)
 sumP:∀X:Nat->Bool,px n (fun v=>V v&&X (pe v))=px m (fun e=>S e&&X e)
 arc:∀t:Nat->Bool,(∀v,t v=true->V v=true)->px n t=false->∃A:Nat->Bool,(∀e,A e=true->S e=true)/\∀v,px m (fun e=>A e&&inc p q e v)=t v
section
variable {n m:Nat} {p q:Nat->Nat}
theorem zV (hs:bZ m p q) {e f v w:Nat} (he:e<m) (hf:f<m) (hne:e≠f) (h1:inc p q e v=true) (h2:inc p q f v=true) (h3:inc p q e w=true) (h4:inc p q f w=true):v=w:=by
 have:=hs.2 e f he hf hne;have n1:=hs.1 e he;have n2:=hs.1 f hf;rw[au] at h1 h2 h3 h4;refine abO fun N1=> ?_
 rcases h1 with h1|h1<;>rcases h2 with h2|h2<;>rcases h3 with h3|h3<;>rcases h4 with h4|h4
 all_goals first
  |exact N1 (by omega)
  |exact this.1 ⟨by omega,by omega⟩
  |exact this.2 ⟨by omega,by omega⟩
theorem yl {e f:Nat}:meet p q e f↔∃v,inc p q e v=true/\inc p q f v=true:=by
 constructor
 .rintro(h|h|h|h)
  .exact⟨_,au.2 (.inl rfl),au.2 (.inl h.symm)⟩
  .exact⟨_,au.2 (.inl rfl),au.2 (.inr h.symm)⟩
  .exact⟨_,au.2 (.inr rfl),au.2 (.inl h.symm)⟩
  .exact⟨_,au.2 (.inr rfl),au.2 (.inr h.symm)⟩
 .rintro⟨v,h1,h2⟩
  rw[au] at h1 h2;rcases h1 with h1|h1<;>rcases h2 with h2|h2
  .exact .inl (by omega)
  .exact .inr (.inl (by omega))
  .exact .inr (.inr (.inl (by omega)))
  .exact .inr (.inr (.inr (by omega)))
variable (O:OC n m p q) (W:Nat->Nat->Bool)
def svp (v e f:Nat):Bool:=
 ((O.V v&&(inc p q e v&&(decide (e=O.pe v)||W e (O.pe v))))&&inc p q f v) ^^ ((O.V v&&inc p q e v)&&(inc p q f v&&(!decide (f=O.pe v)&&W f (O.pe v))))
def sv (e f:Nat):Bool:=W e f ^^ px n (fun v=>svp O W v e f)
variable {O W}
end
end Pl
end
end Go.Proofs.YtbhdibflpjhpaaaGreat
