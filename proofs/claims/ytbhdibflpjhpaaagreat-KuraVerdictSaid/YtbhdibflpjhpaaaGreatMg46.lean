import Derived.Test.YtbhdibflpjhpaaaGreatMg45
import Derived.Test.YtbhdibflpjhpaaaGreatMg34
namespace Go.Proofs.YtbhdibflpjhpaaaGreat
section
open Go.RowKit Lt Pl
noncomputable def Wp.oe (c:Wp) (v:Nat):List Nat:=((Lo.bY c.n c.es c.s c.es.length)[v]?.getD []).map fun x=>x.toNat/2
section
variable {c:Wp} (hv:Si.Val c.n c.es) (h:Df.VF c.n c.es c.s)
include hv h
omit hv h in
theorem Wp.xp {e:Nat} (he:e<c.es.length):g c.lw e=Lo.low c.es c.s e:=by
 unfold g;rw[show c.lw[e]? =some (Lo.low c.es c.s e) from iR he];rfl
theorem Wp.Nv {v:Nat} {e:Nat}:e∈c.oe v↔e<c.es.length/\Lo.fr c.es c.s e=v:=by
 unfold Wp.oe;cases hl:(Lo.bY c.n c.es c.s c.es.length)[v]? with
 |none=>
  rw[aeP,Lo.fu] at hl;constructor
  .intro q;simp at q
  .rintro⟨q1,q2⟩
   have:=(Lo.ct hv h q1).1;omega
 |some l=>
  have hm:=Lo.nZ hv h c.es.length (aad _) v l hl;rw[adH,abT];constructor
  .rintro⟨x,hx,rfl⟩
   obtain⟨b,hb,hf,rfl⟩:=(hm x).1 hx;rw[(Lo.fH h hb).1];exact⟨hb,hf⟩
  .rintro⟨q1,q2⟩
   exact⟨Df.at_ c.s.aT e,(hm _).2 ⟨e,q1,q2,rfl⟩,(Lo.fH h q1).1⟩
theorem Wp.Uj {v:Nat} {l:List Int} (hl:(Lo.bY c.n c.es c.s c.es.length)[v]? =some l):(c.oe v).map (fun e=>Df.at_ c.s.aT e)=l:=by
 have hm:=Lo.nZ hv h c.es.length (aad _) v l hl;unfold Wp.oe;rw[hl,adH,List.map_map]
 conv=>rhs;rw[<-List.map_id l]
 refine adE fun x hx=> ?_
 obtain⟨b,hb,hf,rfl⟩:=(hm x).1 hx;show Df.at_ c.s.aT ((Df.at_ c.s.aT b).toNat/2)=_;rw[(Lo.fH h hb).1];rfl
theorem Wp.F0 (v:Nat):List.Pairwise (fun e f=>Lo.nest c.es c.s e<=Lo.nest c.es c.s f/\e≠f) (c.oe v):=by
 unfold Wp.oe;cases hl:(Lo.bY c.n c.es c.s c.es.length)[v]? with
 |none=>simp
 |some l=>
  have hm:=Lo.nZ hv h c.es.length (aad _) v l hl;have hr:=Lo.rF hv h c.es.length (aad _) l (aah hl);rw[adH,ac8];refine ada ?_ hr;intro x y hx hy hxy;obtain⟨a,ha,_,rfl⟩:=(hm x).1 hx;obtain⟨b,hb,_,rfl⟩:=(hm y).1 hy;unfold Lo.Jo at hxy;rw[(Lo.fH h ha).1,(Lo.fH h hb).1] at hxy ⊢;refine⟨?_,fun e=> ?_⟩
  .rcases hxy with q|q
   .omega
   .omega
  .subst e
   rcases hxy with q|q
   .omega
   .exact absurd q.2 (by omega)
theorem Wp.afS:lI (Lr.df hv h) c.lw:=by
 refine⟨gm _ _,fun e he=> ?_,fun e b he hb=> ?_,fun e he hl=> ?_⟩
 .rw[Wp.xp he]
  exact(Lo.least_le _ _).1
 .rw[Wp.xp he]
  have:=(Lr.x7 hv h he).1 hb;exact(Lo.least_le _ _).2 _ (abT.2 ⟨b,this,rfl⟩)
 .rw[Wp.xp he] at hl ⊢
  rcases Lo.Kq (es:=c.es) (s:=c.s) e with q|q
  .rw[q] at hl
   exact absurd hl (Int.lt_irrefl _)
  .obtain⟨b,hb,hb2⟩:=abT.1 q
   exact⟨b,(Lr.x7 hv h he).2 hb,hb2⟩
theorem Wp.zM {e f:Nat} (he:e<c.es.length) (hf:f<c.es.length) (hn:Lo.nest c.es c.s e<=Lo.nest c.es c.s f):Xq (Lr.df hv h) c.lw e f:=by
 unfold Xq;rw[Wp.xp he,Wp.xp hf];have hle:Lo.low c.es c.s e<=Lo.low c.es c.s f:=by
  unfold Lo.nest at hn
  split at hn<;>split at hn<;>omega
 refine⟨hle,fun heq=> ?_⟩;rintro⟨x,hx,hlx⟩;have hx':=(Lr.x7 hv h he).1 hx;obtain⟨xm,xt,xh⟩:=Lo.tI hv h he hx';rw[Wp.xp xm,Lo.vr hv h xm xt] at hlx;have h2:Lo.cK c.es c.s e<=Lo.ht c.es c.s x:=(Lo.least_le _ _).2 _ (acK.2 ⟨abT.2 ⟨x,hx',rfl⟩,by simpa using hlx⟩);have h3:Lo.low c.es c.s e<Lo.cK c.es c.s e:=by
  rcases Lo.qE (es:=c.es) (s:=c.s) e with q|q
  .rw[q];omega
  .exact q.2
 have h4:Lo.low c.es c.s f<Lo.cK c.es c.s f/\Lo.cK c.es c.s f<Lo.hf c.es c.s f:=by
  unfold Lo.nest at hn;rw[if_pos ⟨h3,by omega⟩] at hn
  split at hn
  .assumption
  .omega
 rcases Lo.qE (es:=c.es) (s:=c.s) f with q|⟨q,q2⟩
 .rw[q] at h4
  exact absurd h4.2 (Int.lt_irrefl _)
 .obtain⟨b,hb,hb2⟩:=abT.1 q
  obtain⟨bm,bt,bh⟩:=Lo.tI hv h hf hb;refine⟨b,(Lr.x7 hv h hf).2 hb,?_⟩;rw[Wp.xp bm,Lo.vr hv h bm bt,hb2];exact q2
theorem Wp.WL:dU (Lr.df hv h) c.env c.oe (fun e=>Df.at_ c.s.aT e):=by
 have hl:=h.lens;refine⟨Wp.afS hv h,fun e he=>(Lo.fH h he).2.1,fun e he=> ?_,fun e he=> ?_,fun e he=> ?_,fun v eM=> ?_,fun v e=>Wp.Nv hv h,fun v=> ?_,fun v=> ?_,fun v eM=> ?_,fun v eM=> ?_⟩
 .obtain⟨h1,-,-,h4⟩:=Lo.fQ h he
  show(Df.at_ c.s.aT e).tdiv 2=_;rw[h1];exact(nJ h4).1
 .obtain⟨h1,-,h3,h4⟩:=Lo.fQ h he
  show Rj c.env (Df.at_ c.s.aT e)=_;rw[h1];exact(nO hv h3).2
 .obtain⟨h1,-,h3,h4⟩:=Lo.fQ h he
  show OJ c.env (Df.at_ c.s.aT e)=_;rw[h1];exact(nO hv h3).1
 .obtain⟨l,hol⟩:∃l,(Lo.bY c.n c.es c.s c.es.length)[v]? =some l:=⟨_,aac (by rw[Lo.fu];exact eM)⟩
  rw[Wp.Uj hv h hol];exact hol
 .exact(Wp.F0 hv h v).imp fun q=>q.2
 .refine ada ?_ (Wp.F0 hv h v)
  intro e f he hf q;exact Wp.zM hv h ((Wp.Nv hv h).1 he).1 ((Wp.Nv hv h).1 hf).1 q.1
 .exact at_at (by show _<c.s.ay.length;rw[hl.2.1];exact eM)
 .have hp:bF c.env.par (v:Int)=some (Df.at_ c.s.par v):=at_at (by show _<c.s.par.length;rw[hl.1];exact eM)
  rw[hp];rcases h.hang v eM with ⟨q,-⟩|⟨u,hu,q1,q2,q3,-⟩
  .refine .inr ⟨fun a am ta ga=> ?_,by rw[q]⟩
   have CN:Lo.tree c.es c.s a=true:=ta;have OG:Lo.fB c.es c.s a=v:=ga;unfold Lo.tree at CN;rw[OG,decide_eq_true_iff,q] at CN;have:=(Lo.fH h am).2.1;omega
  .have am:u/2<c.es.length:=by omega
   have ho:Lo.oh c.s (u/2)=u:=by
    unfold Lo.oh;rw[q3];simp
   have hg:Lo.fB c.es c.s (u/2)=v:=by
    unfold Lo.fB;rw[ho];exact q2
   refine .inl ⟨u/2,am,?_,hg,by rw[q1,q3]⟩;show Lo.tree c.es c.s (u/2)=true;unfold Lo.tree;rw[hg,q1,q3];simp
end
end
end Go.Proofs.YtbhdibflpjhpaaaGreat
