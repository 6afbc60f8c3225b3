import Derived.Test.YtbhdibflpjhpaaaGreatMg02
import Derived.Deep.Upon
set_option maxHeartbeats 8000000
set_option maxRecDepth 100000
namespace Go.Proofs.YtbhdibflpjhpaaaGreat
section
open Go.Proofs.Tryz
open Go.RowKit Go.Sort
def Yf (n:Int) (es:List (Int×Int)) (w:World) (e:Ending) (w':World):Prop:=
 ((Si.valid n es=true/\∃g m:Nat,n=(m:Int)/\e= .returned (.tuple #[.slice (some ⟨g,0,none⟩) m m,.int .i64 0])/\w.heap.size<=g/\af w' g (Si.j9 n es))\/(Si.valid n es=false/\e= .returned (.tuple #[.slice none 0 0,.int .i64 1])))/\Below w.heap.size w w'
theorem Si.yR {l:List Int} {u:Nat} {x:Int} (h:l[u]? =some x):Si.kW l (u:Int)=l.set u (x+1):=by
 unfold Si.kW;rw[ach,aag,h];rfl
theorem Jb (n:Int) (ao:Option Addr) (cap:Nat) (es:List (Int×Int)) (w:World) (he:aN w ao es) (hl:es.length<=4611686018427387904):
 Calls prog 21 #[cH n ao es.length cap] w (Yf n es w):=by
 obtain⟨i0,hi,hz0,hz1,hz2⟩:=info_parts Tryz.cM;have HE:=ζ he;have hva:=fun W (hb:Below w.heap.size w W)=>MK n ao cap es W (he.later hb) hl
 unfold cH at hva ⊢;have Ti:=ζ hva;clear he hva;have Gw:Below w.heap.size w (w.alloc (.cells #[.int .i64 n,.slice ao es.length cap] 24)):=(aae _ _).alloc (aad _) _;have uE:=ζ Gw;clear Gw;cases hv:Si.valid n es with
 |false=>
  rw[hv] at Ti;have HV:=ζ hv;clear hv;go_enter func21,ntmps21;go_wp2_with (go_at_call 37;refine(Ti.out _ uE.out).mono ?_;rintro e w' ⟨rfl,hb⟩;refine abQ ?_);refine ζ ?_;have HB:=ζ (uE.out.trans (hb.mono uE.out.size));clear hb;go_wp2;go_ret2;exact⟨.inr ⟨HV.out,rfl⟩,HB.out⟩
 |true=>
  rw[hv] at Ti;have hval:=Si.bQ.1 hv;have dH:=hval.few;have hlo:=hval.lo;have hhi:=hval.hi;obtain⟨m,rfl⟩:∃m:Nat,n=(m:Int):=⟨n.toNat,by omega⟩;have oJ:=ζ hval;have HV:=ζ hv;clear hval hv;go_enter func21,ntmps21;go_wp2_with (go_at_call 37;refine(Ti.out _ uE.out).mono ?_;rintro e w' ⟨rfl,hb⟩;refine abQ ?_);refine ζ ?_;have hG:w'.heap[w.heap.size]? =some (.cells #[.int .i64 m,.slice ao es.length cap] 24 (0,0)):=(hb.block _ (by simp)).trans (heap_alloc_new w _);have HB:=ζ (uE.out.trans (hb.mono uE.out.size));have U5:=lt_of_block hG;obtain⟨g0,g1,-⟩:=aj hG;clear hb hG;go_wp2_with (at_make;refine wpList_make_full _ rfl _ _ 27 rfl w'.heap.size 3 i0 (.int .i64 0) 1 Tryz.underlying27 hi hz0 hz1 _ _ _ _ m rfl rfl rfl rfl (by rw[hz2];omega) (by unfold maxLen;omega) (aad _) ?_;refine abQ ?_);refine ζ ?_;intro w2 hrow hg2;rw[dD] at hrow;have hik:=eu hrow;have hb2:Below w'.heap.size w' w2:=(aae _ _).grown hg2 (aad _) (fun j hj=>by cases hj);have cj:=ζ (HB.out.trans (hb2.mono HB.out.size));have k1:=(hb2.cell (p:=⟨w.heap.size,1,none⟩) U5).trans g1;have hs2:w'.heap.size<w2.heap.size:=hik.lt;have XW:Hid (af w2 w'.heap.size (Si.j9 m [])):=by
   show af _ _ _;have:Si.j9 m []=List.replicate m 0:=by simp[Si.j9]
   rw[this];exact hik
  have hwg:w.heap.size<=w'.heap.size:=by omega
  have anq:w.heap.size<w2.heap.size:=by omega
  clear hrow hg2 hb2 hik g0 g1;go_wp2;go_loopw [16] (fun c wr=>∃(k:Nat) (l:List Int),k<=es.length/\c= .int .i64 k/\l=Si.j9 m (es.take k)/\af wr w'.heap.size l/\Below w.heap.size w wr) (fun c _=>es.length-(intOf c).toNat)
  case atStart=>exact⟨0,_,ab6 _,rfl,by simp,XW.out,cj.out⟩
  case round=>
   obtain⟨k,l,hk,rfl,hl0,hik,hb⟩:=hrel;have hsw:=hik.lt;have hs0:=hb.size;have eO:l.length=m:=by rw[hl0,Si.r6];simp
   have dV:Si.EJ (2*k) l:=by
    rw[hl0];have:=Si.OS m (es.take k);have e:(es.take k).length=k:=by simp;omega
    rw[e] at this;exact this
   have aje:=ζ hik;have cz:=ζ hb;have Tl:=ζ hl0;clear hl0;by_cases hlt:k<es.length
   .have kR:(k:Int)<(es.length:Int):=by omega
    have hk0:(0:Int)<=(k:Int):=by omega
    obtain⟨p,hp⟩:∃p,es[k]? =some p:=⟨_,aac hlt⟩;obtain⟨b,o,rfl,c0,c1⟩:=(HE.out.later hb) k p hp;have hbl:b<wr.heap.size:=block_lt_of_cell c0;have vU:Si.j9 m (es.take (k+1))=Si.kW (Si.kW l p.1) p.2:=by rw[Si.rj hp,Si.Es,<-Tl.out]
    have hok:=oJ.out.each k p hp;unfold Si.ok at hok;obtain⟨pu,pv⟩:=p;dsimp only at c0 c1 vU hok;obtain⟨u,rfl⟩:∃u:Nat,pu=(u:Int):=⟨pu.toNat,by omega⟩;obtain⟨v,rfl⟩:∃v:Nat,pv=(v:Int):=⟨pv.toNat,by omega⟩;obtain⟨x,hx⟩:∃x,l[u]? =some x:=⟨_,aac (by omega)⟩;obtain⟨y,hy⟩:∃y,l[v]? =some y:=⟨_,aac (by omega)⟩;have hxb:=dV u x hx;have hyb:=dV v y hy;have hne:u≠v:=by omega
    have aaE:Si.j9 m (es.take (k+1))=(l.set u (x+1)).set v (y+1):=by
     rw[vU,Si.yR hx,Si.yR (x:=y) (by rw[ab0,if_neg hne];exact hy)]
    have mW:=ζ aaE;have hcx:=hik.cell hx;have hcy:=hik.cell hy;have hfr:=hik.free;have hi1:=hik.set u (x+1);have anI:=hi1.cell (i:=v) (x:=y) (by rw[ab0,if_neg hne];exact hy);have anE:=hi1.free;have iM:=ζ ((hi1.set v (y+1)).alloc (.cells #[.int .i64 u,.int .i64 v] 38));have u0:(0:Int)<=(u:Int):=by omega
    have v0:(0:Int)<=(v:Int):=by omega
    have um:(u:Int)<(m:Int):=by omega
    have vm:(v:Int)<(m:Int):=by omega
    clear vU aaE dV hok hx hy hb hik hi1 hp;go_wp2;go_roundw
    case rel=>exact⟨k+1,_,by omega,by go_num,mW.out.symm,iM.out,((cz.out.setCell (by simp;omega) _).setCell (by simp;omega) _).alloc (by simp;omega) _⟩
    case measure=>simp[intOf];omega
   .have hd:¬((k:Int)<(es.length:Int)):=by omega
    have hle:l=Si.j9 m es:=by rw[Tl.out,acL (by omega)]
    have B4:=ζ hle;clear hle hb hik dV;go_wp2;go_ret2;refine⟨.inl ⟨HV.out,w'.heap.size,m,rfl,rfl,hwg,?_⟩,cz.out⟩;rw[<-B4.out];exact aje.out
end
section
open Go.RowKit
theorem Cs.SU {n:Nat} {es:List (Int×Int)} (hv:Si.Val n es):∀k,k<=es.length->∀v,v<n->(Si.j9 n (es.take k))[v]? =some ((Cs.out es v (2*k)).length:Int):=by
 intro k
 induction k with
 |zero=>intro _ v hv;simp[Si.j9,Cs.out,hv]
 |succ k ih=>
  intro hk v eM;obtain⟨q,hq⟩:∃q,es[k]? =some q:=⟨_,aac (by omega)⟩;have hok:=hv.each k q hq;unfold Si.ok at hok;obtain⟨qu,qv⟩:=q;dsimp only at hok;obtain⟨a,rfl⟩:∃u:Nat,qu=(u:Int):=⟨qu.toNat,by omega⟩;obtain⟨b,rfl⟩:∃v:Nat,qv=(v:Int):=⟨qv.toNat,by omega⟩;obtain⟨e1,-⟩:=Cs.eP hq;obtain⟨e3,-⟩:=Cs.pN hq;dsimp only[Int.toNat_natCast] at e1 e3;have h1:=ih (by omega) a (by omega);have h2:=ih (by omega) b (by omega);rw[Si.rj hq,Si.Es];have hne:a≠b:=by omega
  rw[Si.yR h1,Si.yR (x:=((Cs.out es b (2*k)).length:Int)) (by rw[ab0,if_neg hne];exact h2)];have e:2*(k+1)=2*k+1+1:=by omega
  have hl:=Si.r6 n (es.take k);rw[e,Cs.iJ,Cs.iJ,e1,e3,ab0];by_cases hb:b=v
  .subst hb
   rw[if_pos rfl,if_pos (by simp;omega),if_neg hne,if_pos rfl]
   congr 1
  .rw[if_neg hb,if_neg hb,ab0]
   by_cases ha:a=v
   .subst ha
    rw[if_pos rfl,if_pos (by omega),if_pos rfl]
    congr 1
   .rw[if_neg ha,if_neg ha,ih (by omega) v eM]
    rfl
end
section
open Go.RowKit
theorem Tryz.KI:(Tryz.prog.info? 27).map (fun i=>(i.zero,i.size,i.bytes))=some (some (.slice none 0 0),1,24):=by kernel_rfl
theorem qx {W:World} {base:Nat} {e:TypeId} {size:Nat} {v:Value} {k:Nat} {xs:List Value} (h:W.ownsRow base e size v (k+1) xs):∃g cap,v= .slice (some ⟨g,0,none⟩) (k+1) cap:=by
 rcases h.2 with ⟨_,h0⟩|⟨g,cap,_,rfl,_⟩
 .omega
 .exact⟨g,cap,rfl⟩
structure aU (w:World) (B:Nat) (v:Value) (vs:List Value) (ls:List (List Int)):Prop where
 len:vs.length=ls.length
 outer:w.ownsRow B 27 1 v ls.length vs
 row:∀(u:Nat) (x:Value) (l:List Int),vs[u]? =some x->ls[u]? =some l->aH w B x l
 apart:∀(u u':Nat) (x x':Value) (b:Nat),u≠u'->vs[u]? =some x->vs[u']? =some x'->x.ownBlock=some b->x'.ownBlock≠some b
 far:∀(u:Nat) (x:Value) (b:Nat),vs[u]? =some x->x.ownBlock=some b->v.ownBlock≠some b
section
variable {w w':World} {B:Nat} {v:Value} {vs:List Value} {ls:List (List Int)}
theorem aU.at (h:aU w B v vs ls) {u:Nat} {x:Value} (hx:vs[u]? =some x):∃l,ls[u]? =some l:=⟨_,aac (by rw[<-h.len];exact(aaf.1 hx).1)⟩
theorem aU.WZ (h:aU w B v vs ls) {u:Nat} {l:List Int} (hl:ls[u]? =some l):∃x,vs[u]? =some x:=⟨_,aac (by rw[h.len];exact(aaf.1 hl).1)⟩
theorem lQ {e:TypeId} {s n:Nat} {xs:List Value} (h:w.ownsRow B e s v n xs) (hb:∀g,v.ownBlock=some g->B<=g->g<w.heap.size->w'.heap[g]? =w.heap[g]?):w'.ownsRow B e s v n xs:=by
 refine⟨h.1,?_⟩;rcases h.2 with h|⟨g,cap,cur,e1,hgB,hh,hr⟩
 .exact .inl h
 .exact .inr ⟨g,cap,cur,e1,hgB,(hb g (by rw[e1];rfl) hgB (lt_of_block hh)).trans hh,hr⟩
theorem aU.same (h:aU w B v vs ls) (hb:∀g,B<=g->g<w.heap.size->w'.heap[g]? =w.heap[g]?):aU w' B v vs ls:=
 ⟨h.len,lQ h.outer fun g _ h1 h2=>hb g h1 h2,fun u x l hx hl=>lQ (h.row u x l hx hl) fun g _ h1 h2=>hb g h1 h2,h.apart,h.far⟩
theorem aU.later (h:aU w B v vs ls) (hb:Below w.heap.size w w'):aU w' B v vs ls:=h.same fun g _ hg=>hb.block g hg
theorem aU.nil (w:World) (B:Nat):aU w B (.slice none 0 0) [] []:=⟨rfl,ad6 _ _ _ _,fun u x l hx=>by simp at hx,fun u u' x x' b _ hx=>by simp at hx,fun u x b hx=>by simp at hx⟩
theorem aU.lower {B':Nat} (h:aU w B v vs ls) (hB:B'<=B):aU w B' v vs ls:=by
 refine⟨h.len,⟨h.outer.1,?_⟩,fun u x l hx hl=>(h.row u x l hx hl).lower hB,h.apart,h.far⟩;rcases h.outer.2 with h|⟨g,cap,cur,e1,hgB,hr⟩
 .exact .inl h
 .exact .inr ⟨g,cap,cur,e1,acA hB hgB,hr⟩
theorem aU.put {W w1:World} {u g c:Nat} {x x':Value} {l l':List Int} (h:aU W B (.slice (some ⟨g,0,none⟩) ls.length c) vs ls) (hx:vs[u]? =some x) (hl:ls[u]? =some l)
 {tmp:Obj} (hown:aH w1 B x' l') (hgrow:(W.alloc tmp).grownBy w1 x.ownBlock) (hat:x'.ownBlock=x.ownBlock\/x'.ownBlock=some (W.heap.size+1)):
 w1.cell? ⟨g,u,none⟩=some x/\w1.frozen? ⟨g,u,none⟩=false/\aU (w1.setCell ⟨g,u,none⟩ x') B (.slice (some ⟨g,0,none⟩) ls.length c) (vs.set u x') (ls.set u l')/\Below B W (w1.setCell ⟨g,u,none⟩ x'):=by
 have tO:=(aaf.1 hx).1;have dy:x.ownBlock≠some g:=fun e=>h.far u x g hx e rfl
 obtain⟨hgB,BJ⟩:=acj h.outer g rfl;have hsz:W.heap.size<=w1.heap.size:=by
  have:=hgrow.size;rw[acC] at this;omega
 have hsame:∀b,x.ownBlock≠some b->b<W.heap.size->w1.heap[b]? =W.heap[b]? :=fun b hne hb=>by
  rw[hgrow.block b (by rw[acC];omega) (fun e=>hne e.symm)];exact ab2 W tmp b hb
 have ho1:w1.ownsRow B 27 1 (.slice (some ⟨g,0,none⟩) ls.length c) ls.length vs:=lQ h.outer fun b hb _ hl=>by
  obtain rfl:g=b:=by simpa[Value.ownBlock] using hb
  exact hsame g dy hl
 have hst:=ho1.stored u x';have hc:=ac1 ho1 (g:=g) rfl u x hx;have ea:((⟨g,0,none⟩:Addr).add u)=⟨g,u,none⟩:=by
  by_cases h0:u=0<;>simp[Addr.add,h0]
 rw[ea] at hc;have hng:x'.ownBlock≠some g:=by
  rcases hat with e|e
  .rw[e];exact dy
  .rw[e]
   intro e2;have:=aal e2;omega
 have Gk:∀b,b≠g->(w1.setCell ⟨g,u,none⟩ x').heap[b]? =w1.heap[b]? :=fun b hb=>heap_setCell_other w1 ⟨g,u,none⟩ b x' hb
 have hxB:∀b,x.ownBlock=some b->B<=b:=fun b hb=>(acj (h.row u x l hx hl) b hb).1
 refine⟨hc,ho1.frozenAt u,⟨by simp[h.len],by rw[acJ];exact hst.1,fun a y k ha hk=> ?_,fun a a' y y' b hne ha ha' hb=> ?_,fun a y b ha hb=> ?_⟩,?_⟩
 .rw[ab0] at ha hk
  by_cases e:u=a
  .subst e
   rw[if_pos rfl,if_pos tO] at ha;rw[if_pos rfl,if_pos (by rw[<-h.len];exact tO)] at hk;cases ha;cases hk;exact hown.same fun b hb _=>Gk b (fun e=>hng (by rw[hb,e]))
  .rw[if_neg e] at ha hk
   refine(h.row a y k ha hk).same fun b hb hl=> ?_
   rw[Gk b (fun e=>h.far a y b ha hb (by rw[e];rfl)),hsame b (fun e2=>h.apart u a x y b e hx ha e2 hb) hl]
 .rw[ab0] at ha ha'
  have hnew:∀(z:Nat) (q:Value) (b:Nat),u≠z->vs[z]? =some q->x'.ownBlock=some b->q.ownBlock≠some b:=fun z q b hz hq hb=>by
   rcases hat with e2|e2
   .rw[e2] at hb
    exact h.apart u z x q b hz hx hq hb
   .rw[e2] at hb
    have SB:=aal hb;intro hc;obtain⟨k,hk⟩:=h.at hq;have:=(acj (h.row z q k hq hk) b hc).2;omega
  by_cases e:u=a
  .subst e
   rw[if_pos rfl,if_pos tO] at ha;cases ha;rw[if_neg hne] at ha';exact hnew a' y' b hne ha' hb
  .rw[if_neg e] at ha
   by_cases e':u=a'
   .subst e'
    rw[if_pos rfl,if_pos tO] at ha';cases ha';intro hc;exact hnew a y b (aao hne) ha hc hb
   .rw[if_neg e'] at ha'
    exact h.apart a a' y y' b hne ha ha' hb
 .rw[ab0] at ha
  by_cases e:u=a
  .subst e
   rw[if_pos rfl,if_pos tO] at ha;cases ha;intro hc;obtain rfl:g=b:=by simpa[Value.ownBlock] using hc
   exact hng hb
  .rw[if_neg e] at ha
   exact h.far a y b ha hb
 .refine⟨hgrow.os,hgrow.tape,hgrow.output,by simpa using hsz,fun k hk=> ?_⟩
  rw[Gk k (by omega),hsame k (fun e=>by have:=hxB k e;omega) (by omega)]
end
end
section
open Go.RowKit
theorem Rz {w:World} {B:Nat} {v:Value} {vs:List Value} {ls:List (List Int)} (h:aU w B v vs ls) (hn:0<ls.length):∃g c,v= .slice (some ⟨g,0,none⟩) ls.length c:=by
 rcases h.outer.2 with ⟨rfl,h0⟩|⟨g,cap,cur,rfl,_⟩
 .omega
 .exact⟨g,cap,rfl⟩
theorem gU {w:World} {B:Nat} {v:Value} {vs:List Value} {ls:List (List Int)} (h:aU w B v vs ls):∃ao c,v= .slice ao ls.length c:=by
 rcases h.outer.2 with ⟨rfl,h0⟩|⟨g,cap,cur,rfl,_⟩
 .exact⟨none,0,by rw[h0]⟩
 .exact⟨_,cap,rfl⟩
end
section
open Go.RowKit Go.Sort
namespace Ku
section
variable {es:List (Int×Int)} {n:Int} {hv:Si.Val n es}
noncomputable def rows (es:List (Int×Int)) {n:Int} (hv:Si.Val n es) (k:Nat):List (List Int):=(ij es hv k).map fun l=>ZL (vs (gs es hv) l)
theorem uV {k:Nat} (h:First es hv k):rows es hv (k+1)=rows es hv k++[ZL (vs (gs es hv) (ch es hv k))]:=by
 unfold rows;simp only[ij];rw[if_pos h,acS];rfl
theorem C1 {k:Nat} (h:¬First es hv k):rows es hv (k+1)=rows es hv k:=by
 unfold rows;simp only[ij];rw[if_neg h]
theorem rA (k:Nat):(rows es hv k).length=(ij es hv k).length:=by simp[rows]
theorem J2 {k t:Nat} {l:List Int} (h:(rows es hv k)[t]? =some l):∃c,(ij es hv k)[t]? =some c/\l=ZL (vs (gs es hv) c):=by
 unfold rows at h;rw[abU] at h;obtain⟨c,hc,rfl⟩:=acX.1 h;exact⟨c,hc,rfl⟩
theorem QK {k:Nat} (hk:k<=es.length) {c:List Nat} (h:c∈ij es hv k):Cn (gs es hv) c:=by
 obtain⟨e,h1,_,rfl⟩:=og.1 h;exact(Ah (by omega)).1
end
def Yi (n:Int) (es:List (Int×Int)) (w:World) (e:Ending) (w':World):Prop:=
 ((Si.valid n es=false/\e= .returned (.tuple #[.slice none 0 0,.int .i64 1]))\/∃(hv:Si.Val n es) (v:Value) (us:List Value),e= .returned (.tuple #[v,.int .i64 0])/\aU w' w.heap.size v us (rows es hv es.length))/\Below w.heap.size w w'
theorem KG {w:World} {B:Nat} {v:Value} {vs:List Value} {ls:List (List Int)} (h:aU w B v vs ls) {k:Nat} {x:Value} (hx:vs[k]? =some x):∃g c,v= .slice (some ⟨g,0,none⟩) ls.length c/\w.cell? ⟨g,k,none⟩=some x:=by
 have hk:=(aaf.1 hx).1;have hl:=h.len;rcases h.outer.2 with ⟨_,h0⟩|⟨g,c,cur,e,_⟩
 .omega
 .refine⟨g,c,e,?_⟩
  have:=ac1 h.outer (g:=g) (by rw[e];rfl) k x hx;have ea:((⟨g,0,none⟩:Addr).add k)=⟨g,k,none⟩:=by
   by_cases h0:k=0<;>simp[Addr.add,h0]
  rw[ea] at this;exact this
end Ku
end
section
open Go.RowKit Go.Sort
namespace Ku
def ofL (l:List Int) (d:Int):Nat->List Int
 |0=>[]
 |k+1=>if gI l k=d then ofL l d k++[(k:Int)] else ofL l d k
def hit (l:List Int) (x y:Int):Option (List Int):=if gI l 0=x/\gI l (l.length-1)=y then some l else if gI l 0=y/\gI l (l.length-1)=x then some l.reverse else none
def WW (ls:List (List Int)) (x y:Int):Nat->List Int×Nat
 |0=>([],0)
 |k+1=>match hit (ls.getD k []) x y with
  |some r=>(r,(WW ls x y k).2+1)
  |none=>WW ls x y k
def Jm (w:World) (v:Value) (l:List Int):Prop:=∃a c,v= .slice a l.length c/\bV w a l
theorem Jm.later {w w':World} {v:Value} {l:List Int} (h:Jm w v l) (hb:Below w.heap.size w w'):Jm w' v l:=by
 obtain⟨a,c,e,hi⟩:=h;exact⟨a,c,e,hi.later hb⟩
end Ku
end
section
open Go.Proofs.Tryz
open Go.RowKit
theorem wu (ao bo:Option Addr) (ca cb n m:Nat) (l l':List Int) (w:World) (hn:l.length=n) (hm:l'.length=m) (ha:bV w ao l) (hb:bV w bo l') (hl:n<=4611686018427387904):
 Calls prog 11 #[.slice ao n ca,.slice bo m cb] w fun e w'=>e= .returned (.bool (decide (l=l')))/\Below w.heap.size w w':=by
 have HA:=ζ ha;have HB:=ζ hb;have HN:=ζ hn;have HM:=ζ hm;clear ha hb;by_cases eO:n=m
 .have j1:((n:Int) != (m:Int))=false:=by simp[eO]
  have B3:=ζ eO;have hnm:(n:Int)=(m:Int):=by omega
  clear eO hn hm;go_enter func11,ntmps11;have Z5:=ζ hnm;clear hnm;go_wp2;go_loopw [5] (fun c wr=>∃k:Nat,k<=n/\c= .int .i64 k/\(∀j,j<k->l[j]? =l'[j]?)/\Below w.heap.size w wr) (fun c _=>n-(intOf c).toNat)
  case atStart=>exact⟨0,ab6 _,rfl,fun j h=>by omega,aae _ _⟩
  case round=>
   obtain⟨k,hk,rfl,hsame,iQ⟩:=hrel;have jW:=ζ hsame;have fP:=ζ iQ;clear hsame;by_cases hlt:k<n
   .have kR:(k:Int)<(n:Int):=by omega
    have hk0:(0:Int)<=(k:Int):=by omega
    have hlm:(k:Int)<(m:Int):=by have:=Z5.out;omega
    obtain⟨x,hx⟩:∃x,l[k]? =some x:=⟨_,aac (by have:=HN.out;omega)⟩;obtain⟨y,hy⟩:∃y,l'[k]? =some y:=⟨_,aac (by have:=HM.out;omega)⟩;obtain⟨b,o,rfl,c0⟩:=(HA.out.later iQ) k x hx;obtain⟨b',o',rfl,d0⟩:=(HB.out.later iQ) k y hy;have hbl:b<wr.heap.size:=block_lt_of_cell c0;have anJ:b'<wr.heap.size:=block_lt_of_cell d0;have HX:=ζ hx;have HY:=ζ hy;clear hx hy iQ;by_cases e1:x=y
    .have t1:(x != y)=false:=by simp[e1]
     have HXY:=ζ e1;clear e1;go_wp2_with fail;go_quiet (fail);go_wp2;go_roundw
     case rel=>
      refine⟨k+1,by omega,by go_num,fun j hj=> ?_,below_drewN fP.out _⟩;by_cases hjk:j=k
      .subst hjk;rw[HX.out,HY.out,HXY.out]
      .exact jW.out j (by omega)
     case measure=>simp[intOf];omega
    .have t1:(x != y)=true:=by simp[e1]
     have hv:decide (l=l')=false:=by
      simp only[decide_eq_false_iff_not];intro h;rw[h,HY.out] at HX;cases HX.out;exact e1 rfl
     have HV:=ζ hv;clear hv;go_wp2_with fail;go_quiet (fail);go_wp2;go_ret;exact⟨by rw[HV.out];rfl,below_drewN fP.out _⟩
   .have hd:¬((k:Int)<(n:Int)):=by omega
    have hv:decide (l=l')=true:=by
     simp only[decide_eq_true_eq];refine acO fun j=> ?_
     by_cases hj:j<k
     .exact jW.out j hj
     .rw[abv (by have:=HN.out;omega),abv (by have:=HM.out;have:=B3.out;omega)]
    have HV:=ζ hv;clear hv iQ;go_wp2;go_ret;exact⟨by rw[HV.out];rfl,fP.out⟩
 .have j1:((n:Int) != (m:Int))=true:=by simp;omega
  have hv:decide (l=l')=false:=by
   simp only[decide_eq_false_iff_not];intro h;rw[h] at hn;omega
  rw[hv];clear eO hn hm hv;go_enter func11,ntmps11;go_wp2;go_ret;exact⟨rfl,aae _ _⟩
end
section
open Go.RowKit Go.Sort
namespace Ku
def ni (w:World) (v:Value) (ls:List (List Int)):Prop:=∃ao c,v= .slice ao ls.length c/\∀(k:Nat) (l:List Int),ls[k]? =some l->∃b o x,ao=some ⟨b,o,none⟩/\w.cell? ⟨b,o+k,none⟩=some x/\Jm w x l
theorem ni.later {w w':World} {v:Value} {ls:List (List Int)} (h:ni w v ls) (hb:Below w.heap.size w w'):ni w' v ls:=by
 obtain⟨ao,c,e,hr⟩:=h;refine⟨ao,c,e,fun k l hl=> ?_⟩;obtain⟨b,o,x,e1,hc,hs⟩:=hr k l hl;exact⟨b,o,x,e1,(hb.cell (p:=⟨b,o+k,none⟩) (block_lt_of_cell hc)).trans hc,hs.later hb⟩
theorem nT {w:World} {B:Nat} {v:Value} {vs:List Value} {ls:List (List Int)} (h:aU w B v vs ls):ni w v ls:=by
 obtain⟨ao,c,rfl⟩:=gU h;refine⟨ao,c,rfl,fun k l hl=> ?_⟩;obtain⟨x,hx⟩:=h.WZ hl;obtain⟨g,c',e,hc⟩:=KG h hx;cases e;obtain⟨xa,xc,o8,hxi,-⟩:=(h.row k x l hx hl).form;exact⟨g,0,x,rfl,by rw[ac7];exact hc,xa,xc,o8,hxi⟩
end Ku
theorem cu {w:World} {b:Nat} {t:TypeId} {x y z:Value} (h:w.heap[b]? =some (.cells #[x,y,z] t (0,0))):w.cell? ⟨b,0,none⟩=some x/\w.cell? ⟨b,1,none⟩=some y/\w.cell? ⟨b,2,none⟩=some z/\∀i,w.frozen? ⟨b,i,none⟩=false:=by
 refine⟨by simp[World.cell?,h],by simp[World.cell?,h],by simp[World.cell?,h],fun i=> ?_⟩;simp[World.frozen?,h]
end
section
open Go.RowKit
theorem EB:Tryz.prog.cellsOf 38=2:=by kernel_rfl
theorem xA:Tryz.prog.cellsOf 3=1:=by kernel_rfl
def jl (e:Int×Int):Prop:=(-9223372036854775808<=e.1/\e.1<=9223372036854775807)/\-9223372036854775808<=e.2/\e.2<=9223372036854775807
theorem TI {x:Int} (h: -9223372036854775808<=x/\x<=9223372036854775807):(Lit.int .i64 x).wf=true:=WalkArith.wf_i64 (by omega)
end
section
open Go.RowKit
theorem Tryz.Sl:(Tryz.prog.info? 4).map (fun i=>(i.zero,i.size,i.bytes))=some (some (.bool false),1,1):=by kernel_rfl
def Co.bM (f:Nat->Bool) (x:Nat) (y:Bool):Nat->Bool:=fun i=>if i=x then y else f i
theorem Co.ML (f:Nat->Bool) (x:Nat) (y:Bool):Co.bM f x y x=y:=by simp[Co.bM]
theorem Co.JJ (f:Nat->Bool) {x i:Nat} {y:Bool} (h:i≠x):Co.bM f x y i=f i:=by simp[Co.bM,h]
def Co.bools (n:Nat) (f:Nat->Bool):List Value:=(List.range n).map fun i=>Value.bool (f i)
def bN (w:World) (g n:Nat) (f:Nat->Bool):Prop:=w.heap[g]? =some (.cells (Co.bools n f).toArray 4 (0,0))
section
variable {w w':World} {g n:Nat} {f:Nat->Bool}
theorem Co.vJ {i:Nat} (hi:i<n):(Co.bools n f)[i]? =some (.bool (f i)):=by
 unfold Co.bools;rw[abU,adR hi];rfl
theorem bN.lt (h:bN w g n f):g<w.heap.size:=lt_of_block h
theorem bN.cell (h:bN w g n f) {i:Nat} (hi:i<n):w.cell? ⟨g,i,none⟩=some (.bool (f i)):=by
 unfold bN at h;have:=Co.vJ (f:=f) hi;simp[World.cell?,h,this]
theorem bN.free (h:bN w g n f) (i:Nat):w.frozen? ⟨g,i,none⟩=false:=by
 unfold bN at h;simp[World.frozen?,h]
theorem bN.set (h:bN w g n f) (i:Nat) (y:Bool):bN (w.setCell ⟨g,i,none⟩ (.bool y)) g n (Co.bM f i y):=by
 unfold bN at h ⊢;rw[heap_setCell_same w g i _ _ _ h,aeI]
 congr 2
 congr 1
 refine acO fun j=> ?_
 rw[ab0];by_cases hj:j<n
 .rw[Co.vJ hj,Co.vJ hj]
  by_cases e:i=j
  .subst e
   rw[if_pos rfl,if_pos (by simp[Co.bools];exact hj),Co.ML]
  .rw[if_neg e,Co.JJ _ (aao e)]
 .rw[abv (by simp[Co.bools];omega),abv (by simp[Co.bools];omega)]
  by_cases e:i=j
  .rw[if_pos e,if_neg (by simp[Co.bools];omega)]
  .rw[if_neg e]
theorem bN.same (h:bN w g n f) (hb:w'.heap[g]? =w.heap[g]?):bN w' g n f:=hb.trans h
theorem bN.later (h:bN w g n f) (hb:Below w.heap.size w w'):bN w' g n f:=(hb.block g h.lt).trans h
theorem Km {W:World} {k:Nat} (h:W.heap.size=k) (n:Nat):bN (W.alloc (.cells (madeCells #[.bool false] n) 4)) k n (fun _=>false):=by
 subst h;unfold bN;rw[heap_alloc_new]
 congr 2
 apply Array.ext';rw[toList_madeCells_one];refine acO fun j=> ?_
 by_cases hj:j<n
 .rw[Co.vJ hj];simp[hj]
 .rw[abv (by simp;omega),abv (by simp[Co.bools];omega)]
end
end
section
open Go.RowKit
def Cs.gO (n:Nat) (es:List (Int×Int)) (x:Int):List Int:=(Cs.wA n es x).map fun i:Nat=>(i:Int)
theorem Cs.FX {n:Nat} {es:List (Int×Int)} {x:Int}:(Cs.gO n es x).length=(Cs.wA n es x).length:=by simp[Cs.gO]
def Cs.I3 (es:List (Int×Int)) (x:Int):Int:=if 0<=x/\x<2*(es.length:Int) then (Cs.fr es x.toNat:Int) else -1
def Cs.toI (es:List (Int×Int)) (x:Int):Int:=if 0<=x/\x<2*(es.length:Int) then (Cs.to es x.toNat:Int) else -1
theorem Cs.jQ {es:List (Int×Int)} {i:Nat} (h:i<2*es.length):Cs.I3 es i=(Cs.fr es i:Int):=by
 unfold Cs.I3;rw[if_pos (by omega)];simp
theorem Cs.toI_in {es:List (Int×Int)} {i:Nat} (h:i<2*es.length):Cs.toI es i=(Cs.to es i:Int):=by
 unfold Cs.toI;rw[if_pos (by omega)];simp
theorem Cs.Ci {es:List (Int×Int)} {x:Int} (h:¬(0<=x/\x<2*(es.length:Int))):Cs.I3 es x= -1:=by unfold Cs.I3;rw[if_neg h]
theorem Cs.toI_no {es:List (Int×Int)} {x:Int} (h:¬(0<=x/\x<2*(es.length:Int))):Cs.toI es x= -1:=by unfold Cs.toI;rw[if_neg h]
theorem Cs.Ik (u:Nat):u ^^^ 1=Cs.twin u:=by
 have h1:(u ^^^ 1)/2=u/2:=by rw[Nat.xor_div_two];simp
 have h2:(u ^^^ 1)%2=(u+1)%2:=by
  have:=Nat.xor_mod_two_pow (a:=u) (b:=1) (n:=1);simp at this;rw[this];rcases adw u with h|h<;>rw[h]<;>simp<;>omega
 unfold Cs.twin
 split<;>omega
theorem Cs.uI (u:Nat) (hu:u<4611686018427387904):bits .xor .i64 (u:Int) 1=(Cs.twin u:Int):=by
 have h1:(BitVec.ofInt 64 (u:Int)).toNat=u:=by
  rw[BitVec.ofInt_natCast,BitVec.toNat_ofNat];exact adh (by omega)
 have h2:(BitVec.ofInt 64 (1:Int)).toNat=1:=by decide
 show IntKind.i64.wrap ((BitVec.ofInt 64 (u:Int) ^^^ BitVec.ofInt 64 (1:Int)).toNat:Int)=_;have h3:=Cs.Ik u;have h4:Cs.twin u<=u+1:=by unfold Cs.twin;split<;>omega
 rw[BitVec.toNat_xor,h1,h2,acf,h3];omega
end
section
open Go.RowKit
abbrev sl (g n:Nat):Value:= .slice (some ⟨g,0,none⟩) n n
def bW (w:World) (p gd gs gh gp gt n M:Nat):Prop:=w.heap[p]? =some (.cells #[sl gd n,sl gs n,sl gh M,sl gp M,sl gt M] 65 (0,0))
section
variable {w w':World} {p gd gs gh gp gt n M:Nat}
theorem bW.lt (h:bW w p gd gs gh gp gt n M):p<w.heap.size:=lt_of_block h
theorem bW.later (h:bW w p gd gs gh gp gt n M) (hb:Below w.heap.size w w'):bW w' p gd gs gh gp gt n M:=(hb.block p h.lt).trans h
theorem bW.other (h:bW w p gd gs gh gp gt n M) {b i:Nat} (hb:p≠b) (x:Value):bW (w.setCell ⟨b,i,none⟩ x) p gd gs gh gp gt n M:=(heap_setCell_other w ⟨b,i,none⟩ p x hb).trans h
theorem bW.wrote {S:Nat->Prop} (h:bW w p gd gs gh gp gt n M) (hw:az S w w') (hp:¬S p):bW w' p gd gs gh gp gt n M:=(hw.block p h.lt hp).trans h
theorem bW.c0 (h:bW w p gd gs gh gp gt n M):w.cell? ⟨p,0,none⟩=some (.slice (some ⟨gd,0,none⟩) n n):=by unfold bW at h;simp[World.cell?,h]
theorem bW.c1 (h:bW w p gd gs gh gp gt n M):w.cell? ⟨p,1,none⟩=some (.slice (some ⟨gs,0,none⟩) n n):=by unfold bW at h;simp[World.cell?,h]
theorem bW.c2 (h:bW w p gd gs gh gp gt n M):w.cell? ⟨p,2,none⟩=some (.slice (some ⟨gh,0,none⟩) M M):=by unfold bW at h;simp[World.cell?,h]
theorem bW.c3 (h:bW w p gd gs gh gp gt n M):w.cell? ⟨p,3,none⟩=some (.slice (some ⟨gp,0,none⟩) M M):=by unfold bW at h;simp[World.cell?,h]
theorem bW.c4 (h:bW w p gd gs gh gp gt n M):w.cell? ⟨p,4,none⟩=some (.slice (some ⟨gt,0,none⟩) M M):=by unfold bW at h;simp[World.cell?,h]
end
end
end Go.Proofs.YtbhdibflpjhpaaaGreat
