import Derived.Test.YtnhcggfbkoppnaaGreatMg03
import Derived.Test.YtnhcggfbkoppnaaGreatMg00
namespace Go.Proofs.YtnhcggfbkoppnaaGreat
section
namespace Df
theorem Fq {l:List Int} {v:Nat} (hv:v<l.length) (x:Int) (u:Nat):at_ (l.set v x) u=if u=v then x else at_ l u:=by
 unfold at_
 rw[List.getD_eq_getElem?_getD,List.getElem?_set]
 by_cases e:v=u
 ·rw[if_pos e,if_pos hv,if_pos e.symm];rfl
 ·rw[if_neg e,if_neg (fun h=>e h.symm),List.getD_eq_getElem?_getD]
theorem Vg {l:List Int} {x:Int} {i:Nat} (hi:i<l.length):at_ (l++[x]) i=at_ l i:=by
 unfold at_
 rw[List.getD_eq_getElem?_getD,List.getElem?_append_left hi,List.getD_eq_getElem?_getD]
theorem RX {l:List Int} {x:Int}:at_ (l++[x]) l.length=x:=by
 unfold at_
 rw[List.getD_eq_getElem?_getD,List.getElem?_append_right (Nat.le_refl _)]
 simp
structure Ext (s s':St):Prop where
 par:∀v:Nat,s.height v≠-1→at_ s'.par v=at_ s.par v
 ay:∀v:Nat,s.height v≠-1→s'.height v=s.height v
 dir:∀e:Nat,s.dir e≠-1→s'.dir e=s.dir e
theorem Ext.refl (s:St):Ext s s:=⟨fun _ _=>rfl,fun _ _=>rfl,fun _ _=>rfl⟩
theorem Ext.reached {s s':St} (h:Ext s s') {v:Nat} (hv:s.height v≠-1):s'.height v≠-1:=by rw[h.ay v hv];exact hv
theorem Ext.walked {s s':St} (h:Ext s s') {e:Nat} (hv:s.dir e≠-1):s'.dir e≠-1:=by rw[h.dir e hv];exact hv
theorem Ext.trans {s s' s'':St} (h:Ext s s') (h':Ext s' s''):Ext s s'':=
 ⟨fun v hv=>(h'.par v (h.reached hv)).trans (h.par v hv),fun v hv=>(h'.ay v (h.reached hv)).trans (h.ay v hv),fun e he=>(h'.dir e (h.walked he)).trans (h.dir e he)⟩
section
variable {n r:Nat} {es:List (Int×Int)} {s s':St} {W:List Int}
theorem Ext.up (h:Ext s s') {v:Nat} (hv:s.height v≠-1):Df.up es s' v=Df.up es s v:=by
 unfold Df.up
 rw[Int.toNat_natCast,h.par v hv]
abbrev Rd (n:Nat) (s:St) (W:List Int):Prop:=∀x∈W,∃u:Nat,x=(u:Int)∧u<n∧s.height u≠-1
theorem Ext.rd (h:Ext s s') (hr:Rd n s W):Rd n s' W:=fun x hx=>by
 obtain⟨u,e,h1,h2⟩:=hr x hx
 exact⟨u,e,h1,h.reached h2⟩
theorem Ext.way (h:Ext s s'):∀{W:List Int},Rd n s W→dK es s W→dK es s' W
 |[],_,_=>trivial
 |v::W,hr,hw=>by
  obtain⟨u,rfl,h1,h2⟩:=hr v List.mem_cons_self
  refine⟨hw.1,?_,Ext.way h (fun x hx=>hr x (List.mem_cons_of_mem _ hx)) hw.2.2⟩
  rw[h.up h2]
  exact hw.2.1
def Cf (n:Nat) (es:List (Int×Int)) (s:St) (e:Nat):Prop:=
 ∃h:Nat,(h=2*e∨h=2*e+1)∧s.dir e=(h:Int)∧((s.height (Cs.to es h)≠-1∧at_ s.par (Cs.to es h)=(h:Int))∨∃W,dK es s ((Cs.fr es h:Int)::W)∧(Cs.to es h:Int)∈(Cs.fr es h:Int)::W∧Rd n s ((Cs.fr es h:Int)::W))
theorem Cf.ext {e:Nat} (h:Ext s s') (hd:Cf n es s e):Cf n es s' e:=by
 obtain⟨x,h1,h2,h3⟩:=hd
 refine⟨x,h1,?_,?_⟩
 ·rw[h.dir e (by rw[h2];omega)]
  exact h2
 ·rcases h3 with ⟨h4,h5⟩|⟨W,h4,h5,h6⟩
  ·exact .inl ⟨h.reached h4,by rw[h.par _ h4];exact h5⟩
  ·exact .inr ⟨W,h.way h6 h4,h5,h.rd h6⟩
theorem rK:∀k,(∀i,i<k→at_ s'.ord i=at_ s.ord i∧Df.up es s' (at_ s.ord i)=Df.up es s (at_ s.ord i))→side n es s' k=side n es s k
 |0,_=>rfl
 |k+1,h=>by
  unfold side
  rw[rK k (fun i hi=>h i (by omega))]
  obtain⟨h1,h2⟩:=h k (by omega)
  rw[h1,h2]
def nQ (es:List (Int×Int)) (s:St) (v:Nat):Prop:=
 (at_ s.par v= -1∧s.height v=0)∨∃h:Nat,h<2*es.length∧at_ s.par v=(h:Int)∧Cs.to es h=v∧s.dir (h/2)=(h:Int)∧s.height (Cs.fr es h)≠-1∧s.height v=s.height (Cs.fr es h)+1
theorem nQ.ext {v:Nat} (h:Ext s s') (hv:s.height v≠-1) (hd:nQ es s v):nQ es s' v:=by
 unfold nQ
 rw[h.par v hv,h.ay v hv]
 rcases hd with h1|⟨x,h1,h2,h3,h4,h5,h6⟩
 ·exact .inl h1
 ·refine .inr ⟨x,h1,h2,h3,?_,h.reached h5,?_⟩
  ·rw[h.dir _ (by rw[h4];omega)]
   exact h4
  ·rw[h.ay _ h5]
   exact h6
structure Inv (n:Nat) (es:List (Int×Int)) (W:List Int) (s:St):Prop where
 once:∀i,i<s.ord.length→∀j,j<i→at_ s.ord j≠at_ s.ord i
 mem:∀v:Nat,v<n→((v:Int)∈s.ord↔s.height v≠-1)
 hang:∀v:Nat,v<n→s.height v≠-1→nQ es s v
 side:∃X B,Df.side n es s s.ord.length=some (X++W,B)∧(X++W).Nodup∧Rd n s (X++W)
 way:dK es s W
 edge:∀e,e<es.length→s.dir e≠-1→Cf n es s e
 fin:∀v:Nat,v<n→s.height v≠-1→(v:Int)∉W→∀h,h<2*es.length→Cs.fr es h=v→s.dir (h/2)≠-1
theorem Inv.rd (h:Inv n es W s):Rd n s W:=by
 obtain⟨X,B,_,_,hr⟩:=h.side
 exact fun x hx=>hr x (List.mem_append_right _ hx)
theorem at_mem {l:List Int} {i:Nat} (hi:i<l.length):at_ l i∈l:=by
 unfold at_
 rw[List.getD_eq_getElem?_getD,List.getElem?_eq_getElem hi]
 exact List.getElem_mem hi
theorem rR (b:Bd n es r s) {h:Nat} (hl:h<2*es.length) (hw:s.dir (h/2)= -1):Ext s (s.mark h):=
 ⟨fun _ _=>rfl,fun _ _=>rfl,fun e he=>by
   rw[jr b hl,if_neg]
   intro e1
   rw[e1] at he
   exact he hw⟩
theorem mo (b:Bd n es r s) {v:Nat} (hv:v<n) (hu:s.height v= -1) (x y:Int):Ext s (s.reach v x y):=
 ⟨fun u hr=>by
   show at_ (s.par.set v x) u=_
   rw[Fq (by rw[b.lp];exact hv),if_neg]
   intro e
   rw[e] at hr
   exact hr hu,fun u hr=>by
   rw[bM b hv,if_neg]
   intro e
   rw[e] at hr
   exact hr hu,fun e he=>rfl⟩
theorem Inv.back {v h:Nat} (hval:Si.Val n es) (b:Bd n es r s) (i:Inv n es ((v:Int)::W) s) (hl:h<2*es.length) (hf:Cs.fr es h=v) (hw:s.dir (h/2)= -1) (hv:s.height (Cs.to es h)≠-1):Inv n es ((v:Int)::W) (s.mark h):=by
 have hx:=rR b hl hw
 have ht:=(Cs.bH hval hl).2
 have hin:(Cs.to es h:Int)∈(v:Int)::W:=by
  refine Classical.byContradiction fun hn=> ?_
  have:=i.fin _ ht hv hn (Cs.twin h) (Cs.uA hl) (Cs.Be es h)
  apply this
  have e:Cs.twin h/2=h/2:=by unfold Cs.twin;split<;>omega
  rw[e]
  exact hw
 refine⟨i.once,i.mem,fun u hu hr=>nQ.ext hx hr (i.hang u hu hr),?_,hx.way i.rd i.way,fun e he hd=> ?_,fun u hu hr hn g hg hfg=>hx.walked (i.fin u hu hr hn g hg hfg)⟩
 ·obtain⟨X,B,h1,h2,h3⟩:=i.side
  refine⟨X,B,?_,h2,h3⟩
  show Df.side n es (s.mark h) s.ord.length=_
  exact(rK (s:=s) (s':=s.mark h) s.ord.length (fun j hj=>⟨rfl,rfl⟩)).trans h1
 ·by_cases e1:e=h/2
  ·subst e1
   refine⟨h,by omega,?_,.inr ⟨W,?_,?_,?_⟩⟩
   ·rw[jr b hl,if_pos rfl]
   ·rw[hf];exact hx.way i.rd i.way
   ·rw[hf];exact hin
   ·rw[hf];exact hx.rd i.rd
  ·rw[jr b hl,if_neg e1] at hd
   exact(i.edge e he hd).ext hx
theorem Du {p i:Int}:∀(X Y B:List Int),p∉X→(leave p i (X++p::Y) B).1=p::Y
 |[],Y,B,_=>by
  show(leave p i (p::Y) B).1=_
  unfold leave
  rw[if_pos rfl]
 |x::X,Y,B,h=>by
  show(leave p i (x::(X++p::Y)) B).1=_
  unfold leave
  rw[if_neg (fun e=>h (by rw[e];exact List.mem_cons_self))]
  exact Du X Y _ (fun hm=>h (List.mem_cons_of_mem _ hm))
theorem Inv.new {v:Nat} {x y:Int} (b:Bd n es r s) (hv:v<n) (hu:s.height v= -1) (hy:y≠-1)
 (once:∀i,i<s.ord.length→∀j,j<i→at_ s.ord j≠at_ s.ord i) (mem:∀v:Nat,v<n→((v:Int)∈s.ord↔s.height v≠-1)) (hang:∀u:Nat,u<n→s.height u≠-1→nQ es s u)
 (side:∃X B,Df.side n es s s.ord.length=some (X++W,B)∧(X++W).Nodup∧Rd n s (X++W)) (way:dK es s W) (edge:∀e,e<es.length→s.dir e≠-1→Cf n es (s.reach v x y) e)
 (fin:∀u:Nat,u<n→s.height u≠-1→(u:Int)∉W→∀h,h<2*es.length→Cs.fr es h=u→s.dir (h/2)≠-1)
 (ZA:nQ es (s.reach v x y) v) (eP:Df.up es (s.reach v x y) v=W.headD (-1)):Inv n es ((v:Int)::W) (s.reach v x y):=by
 have hx:=mo b hv hu x y
 have hnew:(s.reach v x y).height v=y:=by rw[bM b hv,if_pos rfl]
 have hnot:(v:Int)∉s.ord:=fun hm=>((mem v hv).1 hm) hu
 have lI:∀u:Nat,u≠v→(s.reach v x y).height u=s.height u:=fun u e=>by rw[bM b hv,if_neg e]
 obtain⟨X,B,hs,hnd,hrd⟩:=side
 have hvW:(v:Int)∉X++W:=fun hm=>by
  obtain⟨u,e,h1,h2⟩:=hrd _ hm
  obtain rfl:v=u:=by omega
  exact h2 hu
 have WL:Rd n s W:=fun z hz=>hrd z (List.mem_append_right _ hz)
 have ZL:∀i,i<s.ord.length→∃u:Nat,at_ s.ord i=(u:Int)∧u<n∧s.height u≠-1:=fun i hi=>by
  have hm:=at_mem hi
  have h0:=b.hd _ hm
  refine⟨(at_ s.ord i).toNat,by omega,by omega,(mem _ (by omega)).1 ?_⟩
  rw[Int.toNat_of_nonneg h0.1]
  exact hm
 have hlen:(s.reach v x y).ord.length=s.ord.length+1:=by simp[St.reach]
 have hat:∀i,i<s.ord.length→at_ (s.reach v x y).ord i=at_ s.ord i:=fun i hi=>Vg hi
 have Xt:at_ (s.reach v x y).ord s.ord.length=(v:Int):=RX
 refine⟨fun i hi j hj=> ?_,fun u hun=> ?_,fun u hun hr=> ?_,?_,?_,fun e he hd=>edge e he hd,fun u hun hr hn h hh hf=> ?_⟩
 ·rw[hlen] at hi
  by_cases e:i=s.ord.length
  ·rw[e,Xt,hat j (by omega)]
   intro h
   exact hnot (h▸at_mem (by omega))
  ·rw[hat i (by omega),hat j (by omega)]
   exact once i (by omega) j hj
 ·by_cases e:u=v
  ·subst e
   rw[hnew]
   exact⟨fun _=>hy,fun _=>List.mem_append_right _ (by simp)⟩
  ·rw[lI u e,←mem u hun]
   constructor
   ·intro h
    rcases List.mem_append.1 (show(u:Int)∈s.ord++[(v:Int)] from h) with h|h
    ·exact h
    ·rw[List.mem_singleton] at h
     omega
   ·exact fun h=>List.mem_append_left _ h
 ·by_cases e:u=v
  ·rw[e];exact ZA
  ·rw[lI u e] at hr
   exact nQ.ext hx hr (hang u hun hr)
 ·have hk:Df.side n es (s.reach v x y) s.ord.length=some (X++W,B):=by
   rw[rK (s:=s) s.ord.length (fun j hj=> ?_)]
   ·exact hs
   ·obtain⟨u,e,h1,h2⟩:=ZL j hj
    rw[hat j hj,e]
    exact⟨rfl,hx.up h2⟩
  rw[hlen]
  have hleave:(leave (W.headD (-1)) s.ord.length (X++W) B).1=W:=by
   cases W with
   |nil=>
    simp only[List.headD_nil,List.append_nil]
    exact xM fun z hz=>by
     obtain⟨u,e,_⟩:=hrd z (by simpa using hz)
     omega
   |cons p W=>
    simp only[List.headD_cons]
    exact Du X W B (fun hm=>(List.nodup_append.1 hnd).2.2 p hm p List.mem_cons_self rfl)
  refine⟨[],(leave (W.headD (-1)) s.ord.length (X++W) B).2,?_,?_,?_⟩
  ·unfold Df.side
   rw[hk,Option.bind_some]
   dsimp only
   rw[Xt,eP,hleave,if_neg]
   ·rfl
   ·rintro⟨h1,h2⟩
    rw[h2] at h1
    exact h1 rfl
  ·refine List.nodup_cons.2 ⟨fun h=>hvW (List.mem_append_right _ h),(List.nodup_append.1 hnd).2.1⟩
  ·intro z hz
   rcases List.mem_cons.1 hz with rfl|hz
   ·exact⟨v,rfl,hv,by rw[hnew];exact hy⟩
   ·exact hx.rd WL z hz
 ·exact⟨by omega,eP,hx.way WL way⟩
 ·have huv:u≠v:=fun e=>hn (by rw[e];exact List.mem_cons_self)
  rw[lI u huv] at hr
  exact hx.walked (fin u hun hr (fun hm=>hn (List.mem_cons_of_mem _ hm)) h hh hf)
end
end Df
end
section
namespace Df
section
variable {n r:Nat} {es:List (Int×Int)} {s s':St} {W:List Int}
theorem Ju {h k:Nat}:side n es (s.mark h) k=side n es s k:=rK (s:=s) (s':=s.mark h) k (fun _ _=>⟨rfl,rfl⟩)
theorem Inv.go {v h:Nat} (hval:Si.Val n es) (b:Bd n es r s) (i:Inv n es ((v:Int)::W) s) (hl:h<2*es.length) (hf:Cs.fr es h=v) (hw:s.dir (h/2)= -1) (hv:s.height (Cs.to es h)= -1):Inv n es ((Cs.to es h:Int)::(v:Int)::W) (s.go es h):=by
 have hx:=rR b hl hw
 obtain⟨hfn,ht⟩:=Cs.bH hval hl
 have bm:=b.mark hl hw
 have hr:s.height v≠-1:=by
  obtain⟨u,e,_,h2⟩:=i.rd v List.mem_cons_self
  obtain rfl:v=u:=by omega
  exact h2
 have hy:s.height (Cs.fr es h)+1≠-1:=by
  have:=(b.hh _ hfn).1
  omega
 have hv':(s.mark h).height (Cs.to es h)= -1:=hv
 have hx2:=mo bm ht hv' (h:Int) (s.height (Cs.fr es h)+1)
 have hpar:at_ (s.go es h).par (Cs.to es h)=(h:Int):=by
  show at_ (s.par.set (Cs.to es h) (h:Int)) (Cs.to es h)=_
  rw[Fq (by rw[b.lp];exact ht),if_pos rfl]
 have hnt:Cs.fr es h≠Cs.to es h:=by
  intro e
  rw[←e,hf] at hv
  exact hr hv
 have A6:(s.go es h).dir (h/2)=(h:Int):=by
  show(s.mark h).dir (h/2)=_
  rw[jr b hl,if_pos rfl]
 have UB:(s.go es h).height (Cs.to es h)=s.height (Cs.fr es h)+1:=by
  show((s.mark h).reach (Cs.to es h) (h:Int) (s.height (Cs.fr es h)+1)).height (Cs.to es h)=_
  rw[bM bm ht,if_pos rfl]
 have Kn:(s.go es h).height (Cs.fr es h)=s.height (Cs.fr es h):=by
  show((s.mark h).reach (Cs.to es h) (h:Int) (s.height (Cs.fr es h)+1)).height (Cs.fr es h)=_
  rw[bM bm ht,if_neg hnt]
  rfl
 refine Inv.new (s:=s.mark h) (x:=(h:Int)) (y:=s.height (Cs.fr es h)+1) bm ht hv' hy i.once i.mem (fun u hu Um=>nQ.ext hx Um (i.hang u hu Um)) ?_ (hx.way i.rd i.way) (fun e he hd=> ?_) (fun u hu Um hn g hg hfg=>hx.walked (i.fin u hu Um hn g hg hfg)) ?_ ?_
 ·obtain⟨X,B,h1,h2,h3⟩:=i.side
  exact⟨X,B,Ju.trans h1,h2,h3⟩
 ·by_cases e1:e=h/2
  ·subst e1
   exact⟨h,by omega,A6,.inl ⟨by rw[show((s.mark h).reach (Cs.to es h) (h:Int) (s.height (Cs.fr es h)+1)).height (Cs.to es h)=_ from UB];exact hy,hpar⟩⟩
  ·rw[jr b hl,if_neg e1] at hd
   exact((i.edge e he hd).ext hx).ext hx2
 ·exact .inr ⟨h,hl,hpar,rfl,A6,by rw[show((s.mark h).reach (Cs.to es h) (h:Int) (s.height (Cs.fr es h)+1)).height (Cs.fr es h)=_ from Kn,hf];exact hr,by rw[show((s.mark h).reach (Cs.to es h) (h:Int) (s.height (Cs.fr es h)+1)).height (Cs.to es h)=_ from UB,show((s.mark h).reach (Cs.to es h) (h:Int) (s.height (Cs.fr es h)+1)).height (Cs.fr es h)=_ from Kn]⟩
 ·show Cs.Ff es (at_ (s.go es h).par ((Cs.to es h:Int)).toNat)=_
  rw[Int.toNat_natCast,hpar,Cs.jI hl,hf]
  rfl
theorem Inv.root {v:Nat} (b:Bd n es r s) (i:Inv n es [] s) (hv:v<n) (hu:s.height v= -1):Inv n es [(v:Int)] (s.reach v (-1) 0):=by
 have hx:=mo b hv hu (-1) 0
 have hpar:at_ (s.reach v (-1) 0).par v= -1:=by
  show at_ (s.par.set v (-1)) v=_
  rw[Fq (by rw[b.lp];exact hv),if_pos rfl]
 refine Inv.new b hv hu (by omega) i.once i.mem i.hang i.side i.way (fun e he hd=>(i.edge e he hd).ext hx) i.fin (.inl ⟨hpar,by rw[bM b hv,if_pos rfl]⟩) ?_
 show Cs.Ff es (at_ (s.reach v (-1) 0).par ((v:Int)).toNat)=_
 rw[Int.toNat_natCast,hpar]
 exact Cs.zj (by omega)
theorem Inv.finish {v:Nat} (i:Inv n es ((v:Int)::W) s) (hd:∀h,h<2*es.length→Cs.fr es h=v→s.dir (h/2)≠-1):Inv n es W s:=by
 refine⟨i.once,i.mem,i.hang,?_,i.way.2.2,i.edge,fun u hu hr hn h hh hf=> ?_⟩
 ·obtain⟨X,B,h1,h2,h3⟩:=i.side
  refine⟨X++[(v:Int)],B,?_,?_,?_⟩<;>rw[List.append_assoc]<;>assumption
 ·by_cases e:u=v
  ·exact hd h hh (by rw[hf,e])
  ·exact i.fin u hu hr (fun hm=>(List.mem_cons.1 hm).elim (fun e1=>e (by omega)) hn) h hh hf
theorem Gn {v h:Nat} (hh:h<2*es.length) (hf:Cs.fr es h=v):h∈Cs.out es v (2*es.length):=List.mem_of_getElem? (Cs.LO hh hf)
theorem LN {v h:Nat} (hh:h∈Cs.out es v (2*es.length)):h<2*es.length∧Cs.fr es h=v:=by
 obtain⟨j,hj⟩:=List.getElem?_of_mem hh
 exact⟨(Cs.nr hj).1,(Cs.nr hj).2.1⟩
theorem R.inv {k:Nat} {L:List Nat} (hval:Si.Val n es) (h:R es k s L s'):∀(v:Nat) (W:List Int),Bd n es r s→Inv n es ((v:Int)::W) s→(∀x∈L,x<2*es.length∧Cs.fr es x=v)→(∀x,x<2*es.length→Cs.fr es x=v→x∈L∨s.dir (x/2)≠-1)→
 Inv n es ((v:Int)::W) s'∧Ext s s'∧∀x,x<2*es.length→Cs.fr es x=v→s'.dir (x/2)≠-1:=by
 induction h with
 |nil s=>
  intro v W b i hL hF
  refine⟨i,Ext.refl s,fun x hx hf=> ?_⟩
  rcases hF x hx hf with h|h
  ·simp at h
  ·exact h
 | @old k s s' h L hw hr ih=>
   intro v W b i hL hF
   refine ih v W b i (fun x hx=>hL x (List.mem_cons_of_mem _ hx)) (fun x hx hf=> ?_)
   rcases hF x hx hf with h1|h1
   ·rcases List.mem_cons.1 h1 with rfl|h1
    ·exact .inr hw
    ·exact .inl h1
   ·exact .inr h1
 | @back k s s' h L hw hv hr ih=>
   intro v W b i hL hF
   obtain⟨hh,hf⟩:=hL h List.mem_cons_self
   have hx:=rR b hh hw
   obtain⟨h1,h2,h3⟩:=ih v W (b.mark hh hw) (i.back hval b hh hf hw hv) (fun x hx=>hL x (List.mem_cons_of_mem _ hx)) (fun x hxl CD=>by
    rcases hF x hxl CD with h1|h1
    ·rcases List.mem_cons.1 h1 with rfl|h1
     ·exact .inr (by rw[jr b hh,if_pos rfl];omega)
     ·exact .inl h1
    ·exact .inr (hx.walked h1))
   exact⟨h1,hx.trans h2,h3⟩
 | @tree j k s s1 s' h L hw hv hr1 hr2 ih1 ih2=>
   intro v W b i hL hF
   obtain⟨hh,hf⟩:=hL h List.mem_cons_self
   have bg:=b.go hval hh hw
   have hx:Ext s (s.go es h):=(rR b hh hw).trans (mo (b.mark hh hw) (Cs.bH hval hh).2 hv _ _)
   obtain⟨i1,x1,d1⟩:=ih1 (Cs.to es h) ((v:Int)::W) bg (i.go hval b hh hf hw hv) (fun x hx=>LN hx) (fun x hxl CD=> .inl (Gn hxl CD))
   have hx1:=hx.trans x1
   obtain⟨h1,h2,h3⟩:=ih2 v W (hr1.bd hval e8 bg) (i1.finish d1) (fun x hx=>hL x (List.mem_cons_of_mem _ hx)) (fun x hxl CD=>by
    rcases hF x hxl CD with h1|h1
    ·rcases List.mem_cons.1 h1 with rfl|h1
     ·refine .inr ?_
      have:(s.go es x).dir (x/2)=(x:Int):=by
       show(s.mark x).dir (x/2)=_
       rw[jr b hh,if_pos rfl]
      rw[x1.dir _ (by rw[this];omega),this]
      omega
     ·exact .inl h1
    ·exact .inr (hx1.walked h1))
   exact⟨h1,hx1.trans h2,h3⟩
theorem DU (m v:Nat):(List.replicate m (-1:Int)).getD v (-1)= -1:=by
 rw[List.getD_eq_getElem?_getD,List.getElem?_replicate]
 split<;>rfl
theorem Wk.inv (hval:Si.Val n es) {i:Nat} (h:Wk n es i s):i≤n→Inv n es [] s∧∀v,v<i→s.height v≠-1:=by
 induction h with
 |zero=>
  intro _
  have hh:∀v,(St.start n es.length).height v= -1:=fun v=>DU n v
  have hd:∀e,(St.start n es.length).dir e= -1:=fun e=>DU es.length e
  refine⟨⟨fun i hi=>absurd hi (by simp[St.start]),fun v hv=> ?_,fun v hv h=>absurd (hh v) h,⟨[],_,rfl,by simp,fun x hx=>absurd hx (by simp)⟩,trivial,fun e he h=>absurd (hd e) h,fun v hv h=>absurd (hh v) h⟩,fun v hv=>absurd hv (by omega)⟩
  constructor
  ·intro h;simp[St.start] at h
  ·exact fun h=>absurd (hh v) h
 | @pass i s h hv ih=>
   intro hi
   obtain⟨h1,h2⟩:=ih (by omega)
   refine⟨h1,fun v Zj=> ?_⟩
   by_cases e:v=i
   ·rw[e];exact hv
   ·exact h2 v (by omega)
 | @walk i k s s' h hv hr ih=>
   intro hi
   obtain⟨h1,h2⟩:=ih (by omega)
   have b:=h.bd hval (by omega)
   have hx:=mo b (by omega:i<n) hv (-1) 0
   obtain⟨i1,x1,d1⟩:=hr.inv hval i [] (b.root (by omega)) (h1.root b (by omega) hv) (fun x hx=>LN hx) (fun x hxl CD=> .inl (Gn hxl CD))
   refine⟨i1.finish d1,fun v Zj=> ?_⟩
   by_cases e:v=i
   ·rw[e]
    refine x1.reached ?_
    rw[bM b (by omega),if_pos rfl]
    omega
   ·exact(hx.trans x1).reached (h2 v (by omega))
theorem Mz {l:List Int} {i:Nat} (hi:i<l.length):at_ l i=l[i]:=by
 unfold at_
 rw[List.getD_eq_getElem?_getD,List.getElem?_eq_getElem hi]
 rfl
theorem Wk.vf (hval:Si.Val n es) (h:Wk n es n s):VF n es s:=by
 obtain⟨i,hall⟩:=h.inv hval (Nat.le_refl _)
 have b:=h.bd hval (Nat.le_refl _)
 have cq:=hval.few
 have Mc:s.ord.Nodup:=by
  unfold List.Nodup
  rw[List.pairwise_iff_getElem]
  intro a c ha hc hac
  have:=i.once c hc a hac
  rw[Mz ha,Mz hc] at this
  exact this
 have hperm:s.ord.Perm ((List.range n).map Int.ofNat):=by
  rw[List.perm_ext_iff_of_nodup Mc]
  ·intro x
   constructor
   ·intro hx
    have:=b.hd x hx
    exact List.mem_map.2 ⟨x.toNat,List.mem_range.2 (by omega),by simp;omega⟩
   ·intro hx
    obtain⟨v,hv,rfl⟩:=List.mem_map.1 hx
    exact(i.mem v (List.mem_range.1 hv)).2 (hall v (List.mem_range.1 hv))
  ·rw[List.nodup_iff_pairwise_ne,List.pairwise_map]
   refine List.Pairwise.imp ?_ List.nodup_range
   intro a c hac e
   exact hac (Int.ofNat.inj e)
 have hlen:s.ord.length=n:=by rw[hperm.length_eq];simp
 refine⟨⟨b.lp,b.lh,hlen,b.lo⟩,fun a ha=>⟨?_,fun j hj=>i.once a (by omega) j hj⟩,fun v hv=> ?_,?_,fun e he=> ?_⟩
 ·exact b.hd _ (at_mem (by omega))
 ·rcases i.hang v hv (hall v hv) with h1|⟨x,h1,h2,h3,h4,h5,h6⟩
  ·exact .inl h1
  ·refine .inr ⟨x,h1,h2,h3,h4,?_⟩
   have h7:=b.hh _ (Cs.bH hval h1).1
   rw[IntKind.wrap_i64]
   show s.height v=_
   rw[h6]
   have e:at_ s.ay (Cs.fr es x)=s.height (Cs.fr es x):=rfl
   rw[e]
   omega
 ·obtain⟨X,B,h1,_,_⟩:=i.side
  rw[hlen] at h1
  exact⟨_,h1⟩
 ·have h2:2*e<2*es.length:=by omega
  have hf:=(Cs.bH hval h2).1
  have hd:=i.fin _ hf (hall _ hf) (by simp) (2*e) h2 rfl
  rw[show 2*e/2=e by omega] at hd
  obtain⟨x,h3,h4,h5⟩:=i.edge e he hd
  refine⟨x,h3,h4,?_⟩
  rcases h5 with ⟨_,h6⟩|⟨Y,h6,h7,_⟩
  ·exact .inl h6
  ·exact .inr ⟨Y,h6,h7⟩
end
end Df
end
section
namespace Df
def xE (es:List (Int×Int)):Nat→St→List Nat→Option St
 |0,_,_=>none
 |_+1,s,[]=>some s
 |f+1,s,h::L=>
  if s.dir (h/2)≠-1 then xE es f s L
  else if s.height (Cs.to es h)≠-1 then xE es f (s.mark h) L
  else (xE es f (s.go es h) (Cs.out es (Cs.to es h) (2*es.length))).bind fun s1=>xE es f s1 L
theorem LI {es:List (Int×Int)}:∀(f:Nat) {s s':St} {L:List Nat},xE es f s L=some s'→∃k,R es k s L s':=by
 intro f
 induction f with
 |zero=>intro s s' L h;simp[xE] at h
 |succ f ih=>
  intro s s' L h
  cases L with
  |nil=>
   simp[xE] at h
   subst h
   exact⟨0,.nil _⟩
  |cons x L=>
   unfold xE at h
   split at h
   ·rename_i hw
    obtain⟨k,hk⟩:=ih h
    exact⟨_,.old hw hk⟩
   ·rename_i hw
    have hw':s.dir (x/2)= -1:=by simpa using hw
    split at h
    ·rename_i hv
     obtain⟨k,hk⟩:=ih h
     exact⟨_,.back hw' hv hk⟩
    ·rename_i hv
     have hv':s.height (Cs.to es x)= -1:=by simpa using hv
     obtain⟨s1,h1,h2⟩:=Option.bind_eq_some_iff.1 h
     obtain⟨j,hj⟩:=ih h1
     obtain⟨k,hk⟩:=ih h2
     exact⟨_,.tree hw' hv' hj hk⟩
end Df
end
section
namespace Pl
def px:Nat→(Nat→Bool)→Bool
 |0,_=>false
 |n+1,f=>px n f ^^ f n
def fm (m:Nat) (W:Nat→Nat→Bool) (a b:Nat→Bool):Bool:=px m fun e=>px m fun f=>a e&&(b f&&W e f)
end Pl
end
section
namespace Pl
def inc (p q:Nat→Nat) (e v:Nat):Bool:=decide (p e=v)||decide (q e=v)
end Pl
end
section
namespace Pl
structure DF (n m:Nat) where
 fr:Nat→Nat
 go:Nat→Nat
 tree:Nat→Bool
 ay:Nat→Int
 bP:Nat→Nat→Prop
 lt:∀e,e<m→fr e<n∧go e<n
 refl:∀v,v<n→bP v v
 trans:∀{a b c:Nat},bP a b→bP b c→bP a c
 up:∀{u v:Nat},u<n→v<n→bP u v→u≠v→ay u<ay v
 cmp:∀{a b c:Nat},a<n→b<n→c<n→bP a c→bP b c→ay a≤ay b→bP a b
 dP:∀e,e<m→tree e=true→ay (go e)=ay (fr e)+1∧bP (fr e) (go e)
 one:∀e f,e<m→f<m→tree e=true→tree f=true→go e=go f→e=f
 par:∀{e a:Nat},e<m→a<n→tree e=true→bP a (go e)→a≠go e→bP a (fr e)
 back:∀e,e<m→tree e=false→bP (go e) (fr e)∧go e≠fr e
 child:∀{w v:Nat},w<n→v<n→bP w v→w≠v→∃k,k<m∧tree k=true∧fr k=w∧bP (go k) v
 simple:∀e f,e<m→f<m→e≠f→¬(fr e=fr f∧go e=go f)∧¬(fr e=go f∧go e=fr f)
 low:∀v,v<n→0≤ay v∧ay v<n
namespace DF
variable {n m:Nat} (T:DF n m)
theorem ne {e:Nat} (he:e<m):T.fr e≠T.go e:=fun h=>by
 cases ht:T.tree e with
 |true=>have:=(T.dP e he ht).1;rw[←h] at this;omega
 |false=>exact(T.back e he ht).2 h.symm
theorem same {a b c:Nat} (ha:a<n) (hb:b<n) (hc:c<n) (h1:T.bP a c) (h2:T.bP b c) (h:T.ay a=T.ay b):a=b:=
 Classical.byContradiction fun hne=>by
  have:=T.up ha hb (T.cmp ha hb hc h1 h2 (by omega)) hne
  omega
theorem le {a b:Nat} (ha:a<n) (hb:b<n) (h:T.bP a b):T.ay a≤T.ay b:=by
 by_cases e:a=b
 ·rw[e];omega
 ·have:=T.up ha hb h e;omega
open Classical in
noncomputable def N5 (b e:Nat):Bool:=decide (e=b)||(T.tree e&&(decide (T.bP (T.go e) (T.fr b))&&decide (T.ay (T.go b)≤T.ay (T.fr e))))
variable {T}
end DF
end Pl
end
section
namespace Pl
namespace DF
variable {n m:Nat} {T:DF n m} {W:Nat→Nat→Bool}
def swp (T:DF n m) (W:Nat→Nat→Bool) (p e f:Nat):Bool:=
 ((T.tree p&&(inc T.fr T.go e (T.go p)&&(decide (e=p)||W e p)))&&inc T.fr T.go f (T.go p)) ^^ ((T.tree p&&inc T.fr T.go e (T.go p))&&(inc T.fr T.go f (T.go p)&&(!decide (f=p)&&W f p)))
def sw (T:DF n m) (W:Nat→Nat→Bool) (e f:Nat):Bool:=W e f ^^ px m (fun p=>swp T W p e f)
noncomputable def oo (T:DF n m) (X:Nat→Nat→Bool) (b c:Nat):Bool:=fm m (fun e f=>decide (T.fr e=T.fr f)&&(!decide (e=f)&&X e f)) (T.N5 b) (T.N5 c)
noncomputable def oi (T:DF n m) (X:Nat→Nat→Bool) (b c:Nat):Bool:=px m (fun e=>T.N5 b e&&(decide (T.fr e=T.go c)&&X e c))
end DF
end Pl
end
section
namespace Pl
namespace DF
variable {n m:Nat} {T:DF n m} {W X:Nat→Nat→Bool}
def aY (T:DF n m) (e b:Nat):Prop:=b<m∧T.tree b=false∧(e=b∨(T.tree e=true∧T.bP (T.go e) (T.fr b)∧T.ay (T.go b)<T.ay (T.fr e)))
def lA (T:DF n m) (b e:Nat):Prop:=∃b',T.aY e b'∧T.ay (T.go b')<T.ay (T.go b)
structure LR (T:DF n m) (sd:Nat→Bool):Prop where
 same:∀{e f b c:Nat},e<m→f<m→e≠f→T.fr e=T.fr f→T.aY e b→T.aY e c→T.lA b f→T.lA c f→sd b=sd c
 yY:∀{e f b c:Nat},e<m→f<m→e≠f→T.fr e=T.fr f→T.aY e b→T.lA b f→T.aY f c→T.lA c e→sd b≠sd c
theorem aY.lt {e b:Nat} (h:T.aY e b):T.ay (T.go b)<T.ay (T.fr e):=by
 obtain⟨h1,h2,h|⟨_,_,h3⟩⟩:=h
 ·subst h
  obtain⟨b1,b2⟩:=T.back e h1 h2
  exact T.up (T.lt e h1).2 (T.lt e h1).1 b1 b2
 ·exact h3
end DF
end Pl
end
section
namespace Pl
namespace DF
variable {n m:Nat} {T:DF n m}
def ct (T:DF n m) (b e:Nat):Prop:=T.aY e b∧∀b',T.aY e b'→T.ay (T.go b)≤T.ay (T.go b')
def Aligned (T:DF n m) (sd:Nat→Bool):Prop:=∀{e b c:Nat},e<m→T.tree e=true→T.ct b e→T.ct c e→sd b=sd c
theorem PC {b c e:Nat} (hb:T.ct b e) (hc:T.ct c e):T.ay (T.go b)=T.ay (T.go c):=by
 have:=hb.2 c hc.1
 have:=hc.2 b hb.1
 omega
def top (T:DF n m) (b e:Nat):Prop:=(e<m∧T.tree e=true∧T.ct b e)∧∀f,(f<m∧T.tree f=true∧T.ct b f)→(T.ay (T.fr e)).toNat≤(T.ay (T.fr f)).toNat
theorem Dm {e b:Nat} (te:T.tree e=true) (h:T.aY e b):T.bP (T.go e) (T.fr b)∧T.ay (T.go b)<T.ay (T.fr e):=by
 obtain⟨_,h2,h|⟨_,h3,h4⟩⟩:=h
 ·subst h;rw[te] at h2;cases h2
 ·exact⟨h3,h4⟩
open Classical in
noncomputable def rep (T:DF n m) (b:Nat):Nat:=
 if h:∃x,T.top b x then
  (if h2:∃c,T.ct c (Classical.choose h) then Classical.choose h2 else b)
 else b
end DF
end Pl
end
section
namespace Lt
abbrev Iv:=Int×Int
abbrev Pr:=Iv×Iv
abbrev aP:Iv:=(-1,-1)
abbrev dI:Pr:=(aP,aP)
abbrev jw:=Int×Int×Pr
def bz (l:List Int) (i:Int):Option Int:=if 0≤i then l[i.toNat]? else none
def eT (l:List Int) (i z:Int):Option (List Int):=if 0≤i∧i<(l.length:Int) then some (l.set i.toNat z) else none
structure Env where
 lw:List Int
 outs:List (List Int)
 par:List Int
 ay:List Int
 ord:List Int
 aJ:List Int
 us:List Int
 vs:List Int
structure TS where
 like:List Int
 turn:List Int
 lowest:List Int
 stk:List Pr
 way:List jw
def top:List Pr→Pr
 |[]=>dI
 |p::_=>p
def turned (p:Pr):Pr:=(p.2,p.1)
def join (like:List Int) (u l:Iv):Option (List Int×Iv):=
 if u=aP then some (like,l) else if l=aP then some (like,u) else
 match eT like u.2 l.1 with
 |none=>none
 |some aH=>some (aH,(u.1,l.2))
def fU (lw:List Int) (i:Iv) (e:Int):Option Bool:=
 if i=aP then some false else
 match bz lw i.1,bz lw e with
 |some a,some b=>some (decide (b<a))
 |_,_=>none
def own (lw lowest:List Int) (above:Int) (bottom:Pr):List Pr→List Int→Iv→Option (Option (List Pr×List Int×Iv))
 |[],like,o=>if dI=bottom then some (some ([],like,o)) else none
 |p::ps,like,o=>
  if p=bottom then some (some (p::ps,like,o)) else
  if (if p.2=aP then p.2 else p.1)≠aP then some none else
  match bz lw (if p.2=aP then p.1 else p.2).2,bz lw above with
  |some a,some b=>
   if a=b then
    match bz lowest above with
    |none=>none
    |some x=>
     match eT like (if p.2=aP then p.1 else p.2).2 x with
     |none=>none
     |some aH=>own lw lowest above bottom ps aH o
   else
    match join like o (if p.2=aP then p.1 else p.2) with
    |none=>none
    |some (aH,o')=>own lw lowest above bottom ps aH o'
  |_,_=>none
def others (lw:List Int) (e:Int):List Pr→List Int→Pr→Option (Option (List Pr×List Int×Pr))
 |[],like,p=>some (some ([],like,p))
 |q::qs,like,p=>
  match fU lw q.1 e,fU lw q.2 e with
  |some true,some true=>some none
  |some false,some false=>some (some (q::qs,like,p))
  |some l,some _=>
   match join like p.1 (if l=true then q else turned q).1 with
   |none=>none
   |some (eX,i1)=>
    match join eX p.2 (if l=true then q else turned q).2 with
    |none=>none
    |some (eW,i2)=>others lw e qs eW (i1,i2)
  |_,_=>none
def j9 (E:Env) (st:TS) (e above:Int):Option (Option TS):=
 match st.way with
 |[]=>none
 |v::_=>
  match own E.lw st.lowest above v.2.2 st.stk st.like aP with
  |none=>none
  |some none=>some none
  |some (some (ps,like,o))=>
   match others E.lw e ps like (aP,o) with
   |none=>none
   |some none=>some none
   |some (some (qs,aH,p))=>some (some { st with like:=aH,stk:=if p=dI then qs else p::qs })
def least (lw:List Int) (p:Pr):Option Int:=
 if p.1=aP then bz lw p.2.2 else if p.2=aP then bz lw p.1.2 else
 match bz lw p.1.2,bz lw p.2.2 with
 |some a,some b=>some (min a b)
 |_,_=>none
def iK (lw:List Int) (h:Int):List Pr→List Int→Option (List Pr×List Int)
 |[],turn=>some ([],turn)
 |p::ps,turn=>
  if p=dI then none else
  match least lw p with
  |none=>none
  |some a=>
   if a=h then
    if p.1=aP then iK lw h ps turn else
    match eT turn p.1.2 (-1) with
    |none=>none
    |some aZ=>iK lw h ps aZ
   else some (p::ps,turn)
def down (lw like:List Int) (h:Int):Nat→Int→Option Int
 |0,_=>none
 |k+1,x=>
  if x= -1 then some x else
  match bz lw x with
  |none=>none
  |some a=>
   if a=h then
    match bz like x with
    |none=>none
    |some y=>down lw like h k y
   else some x
def cut (lw:List Int) (h:Int) (like turn:List Int) (i o:Iv):Option (List Int×List Int×Iv):=
 if i=aP then some (like,turn,i) else
 match down lw like h (like.length+1) i.1 with
 |none=>none
 |some x=>
  if x= -1 then
   match eT like i.2 o.2,eT turn i.2 (-1) with
   |some aH,some aZ=>some (aH,aZ,aP)
   |_,_=>none
  else some (like,turn,(x,i.2))
def trim (lw:List Int) (h:Int) (st:TS):Option TS:=
 match iK lw h st.stk st.turn with
 |none=>none
 |some ([],turn)=>some { st with stk:=[],turn:=turn }
 |some (p::ps,turn)=>
  if p=dI then none else
  match cut lw h st.like turn p.1 p.2 with
  |none=>none
  |some (eX,fS,l)=>
   match cut lw h eX fS p.2 l with
   |none=>none
   |some (eW,sP,r)=>some { st with stk:=(l,r)::ps,like:=eW,turn:=sP }
def MU (E:Env) (h:Int):Option Int:=if h.tmod 2=0 then bz E.vs (h.tdiv 2) else bz E.us (h.tdiv 2)
def KI (E:Env) (h:Int):Option Int:=if h.tmod 2=0 then bz E.us (h.tdiv 2) else bz E.vs (h.tdiv 2)
def back? (E:Env) (h:Int):Option Bool:=((MU E h).bind (bz E.par)).map fun p=>decide (p≠h)
def ya (E:Env) (h:Int):Option Int:=(KI E h).bind (bz E.ay)
def settle (E:Env) (st:TS) (h:Int):Option (Option TS):=
 match bz E.lw (h.tdiv 2),ya E h with
 |some a,some b=>
  if a<b then
   match (KI E h).bind (bz E.par),(KI E h).bind fun v=>E.outs[v.toNat]?.bind fun l=>l[0]? with
   |some p,some o=>
    if o=h then
     match bz st.lowest (h.tdiv 2) with
     |none=>none
     |some x=>
      match eT st.lowest (p.tdiv 2) x with
      |none=>none
      |some lowest=>some (some { st with lowest:=lowest })
    else j9 E st (h.tdiv 2) (p.tdiv 2)
   |_,_=>none
  else some (some st)
 |_,_=>none
def enter (st:TS) (v:Int):TS:={ st with way:=(v,0,dI)::st.way }
def xZ (E:Env) (st:TS) (h:Int):Option (Option TS):=
 match back? E h with
 |none=>none
 |some false=>(MU E h).map fun v=>some (enter st v)
 |some true=>
  match eT st.lowest (h.tdiv 2) (h.tdiv 2) with
  |none=>none
  |some lowest=>settle E { st with lowest:=lowest,stk:=(aP,(h.tdiv 2,h.tdiv 2))::st.stk } h
def leave (E:Env) (st:TS):Option (Option TS):=
 match st.way with
 |[]=>none
 |v::way=>
  match bz E.par v.1 with
  |none=>none
  |some h=>
   if h= -1 then some (some { st with way:=way }) else
   match ya E h with
   |none=>none
   |some b=>
    match trim E.lw b { st with way:=way } with
    |none=>none
    |some st'=>settle E st' h
def step (E:Env) (st:TS):Option (Option TS):=
 match st.way with
 |[]=>none
 |v::way=>
  if 0≤v.1∧0≤v.2.1 then
   match E.outs[v.1.toNat]? with
   |none=>none
   |some l=>
    if v.2.1=(l.length:Int) then leave E st else
    match l[v.2.1.toNat]? with
    |none=>none
    |some h=>xZ E { st with way:=(v.1,v.2.1+1,top st.stk)::way } h
  else none
def run (E:Env):Nat→TS→Option (Option TS)
 |k,st=>
  if st.way=[] then some (some st) else
  match k with
  |0=>none
  |k+1=>
   match step E st with
   |none=>none
   |some none=>some none
   |some (some st')=>run E k st'
def trees (E:Env) (k:Nat):List Int→TS→Option (Option TS)
 |[],st=>some (some st)
 |v::l,st=>
  match bz E.par v with
  |none=>none
  |some p=>
   if p= -1 then
    match run E k (enter st v) with
    |none=>none
    |some none=>some none
    |some (some st')=>trees E k l st'
   else trees E k l st
def start (m:Nat):TS:=⟨List.replicate m (-1),List.replicate m 1,List.replicate m (-1),[],[]⟩
def side:Nat→List Int→List Int→Int→Option (List Int×List Int)
 |0,_,_,_=>none
 |k+1,like,turn,x=>
  match bz like x with
  |none=>none
  |some y=>
   if y= -1 then some (like,turn) else
   match side k like turn y with
   |none=>none
   |some (eX,fS)=>
    match bz eX x with
    |none=>none
    |some y'=>
     match bz fS x,bz fS y',eT eX x (-1) with
     |some a,some b,some eW=>
      match eT fS x (a*b) with
      |none=>none
      |some sP=>some (eW,sP)
     |_,_,_=>none
def sides (E:Env) (k:Nat):List Int→List Int→List Int→List Int→Option (List Int)
 |[],_,_,p=>some p
 |h::hs,like,turn,p=>
  match back? E h with
  |none=>none
  |some false=>sides E k hs like turn (p++[0])
  |some true=>
   match side k like turn p.length with
   |none=>none
   |some (aH,aZ)=>
    match bz aZ p.length with
    |none=>none
    |some x=>sides E k hs aH aZ (p++[x])
def test (E:Env) (k m:Nat):Option (Option (List Int)):=
 match trees E k E.ord (start m) with
 |none=>none
 |some none=>some none
 |some (some st)=>(sides E k E.aJ st.like st.turn []).map some
theorem M3 {E:Env}:∀(k:Nat) (st:TS) {r:Option TS},run E k st=some r→∀d,run E (k+d) st=some r:=by
 intro k
 induction k with
 |zero=>
  intro st r h d
  unfold run at h ⊢
  split at h
  ·rename_i hw
   rw[if_pos hw]
   exact h
  ·cases h
 |succ k ih=>
  intro st r h d
  unfold run at h ⊢
  split at h
  ·rename_i hw
   rw[if_pos hw]
   exact h
  ·rename_i hw
   rw[if_neg hw,show k+1+d=(k+d)+1 by omega]
   dsimp only at h ⊢
   cases hs:step E st with
   |none=>rw[hs] at h;cases h
   |some q=>
    rw[hs] at h
    cases q with
    |none=>exact h
    |some st'=>exact ih st' h d
end Lt
end
end Go.Proofs.YtnhcggfbkoppnaaGreat
