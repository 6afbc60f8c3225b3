import Derived.Test.YtdbjpbjocmcpkaaGreatDoorMk00
import Derived.Laws.AppendOwnNone
import Derived.BigQuiet
set_option maxHeartbeats 4000000
set_option maxRecDepth 100000
namespace Go.Proofs.YtdbjpbjocmcpkaaGreatDoor
section
open Go.Proofs.Tryz
open Go.RowKit Go.Sort
namespace Si
def gS (n:Int) (es:List (Int×Int)) (k:Nat) (l:Int×Int):Prop:=
 (∀(j:Nat) (p:Int×Int),j<k->es[j]? =some p->ok n p)/\(∀(j:Nat) (p q:Int×Int),j+1<k->es[j]? =some p->es[j+1]? =some q->lt p q)/\((k=0/\l=(0,0))\/∃k',k=k'+1/\es[k']? =some l)
theorem gS.start (n:Int) (es:List (Int×Int)):gS n es 0 (0,0):=⟨fun j p h=>by omega,fun j p q h=>by omega,.inl ⟨rfl,rfl⟩⟩
theorem gS.step {n:Int} {es:List (Int×Int)} {k:Nat} {l p:Int×Int} (h:gS n es k l) (hp:es[k]? =some p) (ho:ok n p) (hl:lt l p):gS n es (k+1) p:=by
 refine⟨fun j q hj hq=> ?_,fun j q r hj hq hr=> ?_,.inr ⟨k,rfl,hp⟩⟩
 .by_cases hjk:j=k
  .subst hjk;rw[hp] at hq;cases hq;exact ho
  .exact h.1 j q (by omega) hq
 .by_cases hjk:j+1=k
  .subst hjk
   rw[hp] at hr;cases hr;rcases h.2.2 with ⟨h0,_⟩|⟨k',hk,hl'⟩
   .omega
   .obtain rfl:j=k':=by omega
    rw[hl'] at hq;cases hq;exact hl
  .exact h.2.1 j q r (by omega) hq hr
theorem gS.must {n:Int} {es:List (Int×Int)} {k:Nat} {l p:Int×Int} (h:gS n es k l) (hv:Val n es) (hp:es[k]? =some p):ok n p/\lt l p:=by
 have ho:=hv.each k p hp;refine⟨ho,?_⟩;rcases h.2.2 with ⟨rfl,rfl⟩|⟨k',rfl,hl⟩
 .unfold ok at ho
  unfold lt;dsimp only;omega
 .exact hv.up k' l p hl hp
theorem gS.done {n:Int} {es:List (Int×Int)} {l:Int×Int} (h:gS n es es.length l) (h0:0<=n) (h1:n<=1048576) (h2:es.length<=4194304):Val n es:=by
 have lim:∀(j:Nat) (p:Int×Int),es[j]? =some p->j<es.length:=fun j p hj=>by
  rcases abk j es.length with hl|hl
  .exact hl
  .rw[aaS hl] at hj;cases hj
 exact⟨h0,h1,h2,fun j p hj=>h.1 j p (lim j p hj) hj,fun j p q hp hq=>h.2.1 j p q (lim _ _ hq) hp hq⟩
end Si
theorem af {w:World} {b:Nat} {t:TypeId} {x y:Value} (h:w.heap[b]? =some (.cells #[x,y] t (0,0))):w.cell? ⟨b,0,none⟩=some x/\w.cell? ⟨b,1,none⟩=some y/\∀i,w.frozen? ⟨b,i,none⟩=false:=by
 refine⟨by simp[World.cell?,h],by simp[World.cell?,h],fun i=>by simp[World.frozen?,h]⟩
theorem bS {w:World} {b:Nat} {t:TypeId} {x y:Value} (h:w.heap[b]? =some (.cells #[x,y] t (0,0))) (x' y':Value):((w.setCell ⟨b,0,none⟩ x').setCell ⟨b,1,none⟩ y').heap[b]? =some (.cells #[x',y'] t (0,0)):=by
 have h1:=heap_setCell_same w b 0 _ t x' h;have h2:=heap_setCell_same _ b 1 _ t y' h1;simpa using h2
theorem cB {w:World} {b k:Nat} (hk:k≠b) (x' y':Value):((w.setCell ⟨b,0,none⟩ x').setCell ⟨b,1,none⟩ y').heap[k]? =w.heap[k]? :=by
 rw[heap_setCell_other _ ⟨b,1,none⟩ k y' hk,heap_setCell_other _ ⟨b,0,none⟩ k x' hk]
theorem lu (n:Int) (ao:Option Addr) (cap:Nat) (es:List (Int×Int)) (w:World) (he:ah w ao es) (hl:es.length<=4611686018427387904):
 Calls prog 38 #[aD n ao es.length cap] w fun e w'=>e= .returned (.bool (Si.valid n es))/\Below w.heap.size w w':=by
 have HE:=ζ he;clear he;unfold aD;by_cases h1:n<0
 .have hv:=Si.bR (n:=n) (es:=es) (fun h=>by have:=h.lo;omega)
  rw[hv];go_enter func38,ntmps38;go_wp2;go_ret;exact⟨rfl,(aaE _ _).alloc (aaD _) _⟩
 .by_cases h2:1048576<n
  .have hv:=Si.bR (n:=n) (es:=es) (fun h=>by have:=h.hi;omega)
   rw[hv];go_enter func38,ntmps38;go_wp2;go_ret;exact⟨rfl,(aaE _ _).alloc (aaD _) _⟩
  .by_cases h3:4194304<(es.length:Int)
   .have hv:=Si.bR (n:=n) (es:=es) (fun h=>by have:=h.few;omega)
    rw[hv];go_enter func38,ntmps38;go_wp2;go_ret;exact⟨rfl,(aaE _ _).alloc (aaD _) _⟩
   .go_enter func38,ntmps38
    go_wp2;go_loopw [23] (fun c wr=>∃(k:Nat) (l:Int×Int),k<=es.length/\c= .int .i64 k/\Si.gS n es k l/\wr.heap[w.heap.size]? =some (.cells #[.int .i64 n,.slice ao es.length cap] 24 (0,0))/\wr.heap[w.heap.size+1]? =some (.cells #[.int .i64 l.1,.int .i64 l.2] 66 (0,0))/\Below w.heap.size w wr) (fun c _=>es.length-(intOf c).toNat)
    case atStart=>
     refine⟨0,(0,0),aaL _,rfl,Si.gS.start n es,?_,?_,((aaE _ _).alloc (aaD _) _).alloc (by simp) _⟩
     .rw[aaO _ _ _ (by simp)]
      exact heap_alloc_new w _
     .have:=heap_alloc_new (w.alloc (.cells #[.int .i64 n,.slice ao es.length cap] 24)) (.cells #[.int .i64 0,.int .i64 0] 66)
      simpa using this
    case round=>
     obtain⟨k,l,hk,rfl,vg,hgb,hlb,hb⟩:=hrel;by_cases hlt:k<es.length
     .have aX:(k:Int)<(es.length:Int):=by omega
      have hk0:(0:Int)<=(k:Int):=by omega
      obtain⟨p,hp⟩:∃p,es[k]? =some p:=⟨_,aaC hlt⟩;obtain⟨b,o,rfl,c0,c1⟩:=(HE.out.later hb) k p hp;obtain⟨g0,-,-⟩:=af hgb;obtain⟨l0,l1,lf⟩:=af hlb;have hsz:=lt_of_block hlb;have kY:=lt_of_block hgb;have hbl:b<wr.heap.size:=block_lt_of_cell c0;have nM:=ζ vg;have HP:=ζ hp;have zY:=ζ hgb;have Ix:=ζ hlb;have HB:=ζ hb;clear vg hp hgb hlb hb;by_cases q1:p.1<0
      .have hv:=Si.bR (n:=n) (es:=es) (fun h=>by have:=(nM.out.must h HP.out).1.1;omega)
       go_wp2;go_ret;exact⟨by first|rfl|exact congrArg (fun b=>Ending.returned (.bool b)) hv.symm,HB.out.alloc (by omega) _⟩
      .by_cases q2:p.1<p.2
       .by_cases q3:p.2<n
        .have hca:=fun W=>Cq l p W
         unfold dx at hca;have kD:=ζ hca;clear hca;by_cases q4:Si.lt l p
         .have Ew:=Si.Ju.2 q4
          generalize Si.cf l p=r at kD Ew;go_wp2_with (go_at_call 73;refine(kD.out _).mono ?_;rintro e w' ⟨rfl,hgr⟩;refine aaH ?_);refine ζ ?_;obtain⟨qn,os',rfl⟩:=hgr;have hb1:=nw (wr.alloc (.cells #[.int .i64 p.1,.int .i64 p.2] 66)) qn os';have hb2:Below wr.heap.size wr (grow ((wr.alloc (.cells #[.int .i64 p.1,.int .i64 p.2] 66)).drewN qn) os'):=((aaE _ _).alloc (aaD _) _).trans (hb1.mono (by simp));have hnew:(grow ((wr.alloc (.cells #[.int .i64 p.1,.int .i64 p.2] 66)).drewN qn) os').heap[wr.heap.size]? =some (.cells #[.int .i64 p.1,.int .i64 p.2] 66 (0,0)):=(hb1.block _ (by simp)).trans (heap_alloc_new wr _);generalize grow ((wr.alloc (.cells #[.int .i64 p.1,.int .i64 p.2] 66)).drewN qn) os'=w2 at hb2 hnew ⊢;have Q1:=ζ ((hb2.block _ hsz).trans Ix.out);have W8:=ζ ((hb2.block _ kY).trans zY.out);obtain⟨m0,m1,mf⟩:=af Q1.out;obtain⟨n0,n1,-⟩:=af hnew;have hsz2:=hb2.size;have aC:=ζ (HB.out.trans (hb2.mono (by omega)));clear hb1 hb2 hnew c0 c1 g0 l0 l1 lf;go_wp2;go_roundw
          case rel=>exact⟨k+1,p,by omega,by go_num,nM.out.step HP.out ⟨by omega,q2,q3⟩ q4,(cB (by omega) _ _).trans W8.out,bS Q1.out _ _,(aC.out.setCell (by simp) _).setCell (by simp) _⟩
          case measure=>simp[intOf];omega
         .have hv:=Si.bR (n:=n) (es:=es) (fun h=>q4 (nM.out.must h HP.out).2)
          have Ew:¬(Si.cf l p<0):=fun h=>q4 (Si.Ju.1 h)
          generalize Si.cf l p=r at kD Ew;go_wp2_with (go_at_call 73;refine(kD.out _).mono ?_;rintro e w' ⟨rfl,hgr⟩;refine aaH ?_);refine ζ ?_;obtain⟨qn,os',rfl⟩:=hgr;have hb1:=nw (wr.alloc (.cells #[.int .i64 p.1,.int .i64 p.2] 66)) qn os';generalize grow ((wr.alloc (.cells #[.int .i64 p.1,.int .i64 p.2] 66)).drewN qn) os'=w2 at hb1 ⊢;have aC:=ζ ((HB.out.alloc (by omega) _).trans (hb1.mono (by simp;omega)));clear hb1;go_wp2;go_ret;exact⟨by first|rfl|exact congrArg (fun b=>Ending.returned (.bool b)) hv.symm,aC.out⟩
        .have hv:=Si.bR (n:=n) (es:=es) (fun h=>by have:=(nM.out.must h HP.out).1.2.2;omega)
         go_wp2;go_ret;exact⟨by first|rfl|exact congrArg (fun b=>Ending.returned (.bool b)) hv.symm,HB.out.alloc (by omega) _⟩
       .have hv:=Si.bR (n:=n) (es:=es) (fun h=>by have:=(nM.out.must h HP.out).1.2.1;omega)
        go_wp2;go_ret;exact⟨by first|rfl|exact congrArg (fun b=>Ending.returned (.bool b)) hv.symm,HB.out.alloc (by omega) _⟩
     .obtain rfl:k=es.length:=by omega
      have hv:=Si.aJ.2 (vg.done (by omega) (by omega) (by omega));have HB:=ζ hb;clear hb vg hgb hlb;go_wp2;go_ret;exact⟨by first|rfl|exact congrArg (fun b=>Ending.returned (.bool b)) hv.symm,HB.out⟩
end
namespace Si
theorem BQ (ps:List (Int×Int)):(made [] ps).Pairwise lt:=(lI ps).1
theorem e9 {ps:List (Int×Int)} {k:Nat} {p:Int×Int} (h:ps[k]? =some p):ps.take (k+1)=ps.take k++[p]:=by
 have hl:k<ps.length:=(aaF.1 h).1;rw[acD hl];rw[aaC hl] at h;cases h;rfl
theorem Kc {n:Int} {ps:List (Int×Int)} (h0:0<=n) (h1:n<=1048576) (hin:∀(j:Nat) (p:Int×Int),ps[j]? =some p->(0<=p.1/\p.1<n)/\0<=p.2/\p.2<n) (hl:(made [] ps).length<=4194304):Val n (made [] ps):=by
 refine⟨h0,h1,hl,fun j p hj=> ?_,fun j p q hp hq=> ?_⟩
 .obtain⟨r,hr,hne,rfl⟩:=((lI ps).2 p).1 (aaG hj)
  obtain⟨i,hi,e⟩:=aaT.1 hr;have:=hin i r (by rw[<-e];exact aaC hi);unfold ok norm;dsimp only;omega
 .have hs:=BQ ps
  rw[aa8] at hs;obtain⟨hi,ei⟩:=aaF.1 hp;obtain⟨hj,ej⟩:=aaF.1 hq;have:=hs j (j+1) hi hj (by omega);rw[ei,ej] at this;exact this
end Si
section
namespace Ed
open Si
abbrev E:=Int×Int
abbrev TM:=Int×List E×Int
def nth (ns:List Int) (v:Int):Int:=ns.getD v.toNat (-1)
def XQ (q:E):Bool:=decide (0<=q.1)&&decide (0<=q.2)
def pr (ns:List Int) (es:List E):List E:=(es.map fun p=>(nth ns p.1,nth ns p.2)).filter XQ
def named (ns:List Int) (es:List E):List E:=made [] (pr ns es)
theorem gy {n:Int} {es:List E} (h0:0<=n) (h1:n<=1048576) (h2:es.length<=4194304) (h3:∀p∈es,ok n p) (h4:es.Pairwise lt):Val n es:=by
 refine⟨h0,h1,h2,fun j p hj=>h3 p (aaG hj),fun j p q hp hq=> ?_⟩;rw[aa8] at h4;obtain⟨hi,ei⟩:=aaF.1 hp;obtain⟨hj,ej⟩:=aaF.1 hq;have:=h4 j (j+1) hi hj (by omega);rw[ei,ej] at this;exact this
def LR (n:Nat) (l:List Int):Nat->List Int
 |0=>List.replicate n (-1)
 |k+1=>(LR n l k).set (l.getD k 0).toNat (k:Int)
def pl (n:Nat) (l:List Int):List Int:=LR n l l.length
theorem Dv (n:Nat) (l:List Int):∀k,(LR n l k).length=n
 |0=>by simp[LR]
 |k+1=>by simp[LR,Dv n l k]
def zz (m:Nat) (keep:List Int):Nat->List Bool
 |0=>List.replicate m false
 |k+1=>(zz m keep k).set (keep.getD k 0).toNat true
def mk (m:Nat) (keep:List Int):List Bool:=zz m keep keep.length
theorem gN (m:Nat) (l:List Int):∀k,(zz m l k).length=m
 |0=>by simp[zz]
 |k+1=>by simp[zz,gN m l k]
def sel:List Bool->List E->List E
 |true::b,e::es=>e::sel b es
 |false::b,_::es=>sel b es
 |_,_=>[]
theorem Am:∀(b:List Bool) (es:List E) (k:Nat) (p:E) (x:Bool),es[k]? =some p->b[k]? =some x->sel b (es.take (k+1))=sel b (es.take k)++(if x=true then [p] else [])
 |[],_,_,_,_,_,h=>by simp at h
 |_::_,[],_,_,_,h,_=>by simp at h
 |c::b,e::es,0,p,x,h1,h2=>by
  simp at h1 h2;subst h1;subst h2;cases c<;>simp[sel]
 |c::b,e::es,k+1,p,x,h1,h2=>by
  have ih:=Am b es k p x (by simpa using h1) (by simpa using h2);simp only[List.take_succ_cons];cases c
  .simp only[sel]
   simpa using ih
  .simp only[sel,abC]
   congr 1
theorem wG:∀(b:List Bool) (es:List E),(sel b es).Sublist es
 |[],es=>by simp[sel]
 |_::_,[]=>by simp[sel]
 |true::b,e::es=>by simp only[sel];exact(wG b es).cons_cons e
 |false::b,e::es=>by simp only[sel];exact(wG b es).cons e
open Classical in
noncomputable def sub (n:Int) (es:List E) (keep:List Int):TM:=
 if valid n es=false then (0,[],1) else if ¬ ∀x∈keep,0<=x/\x<(es.length:Int) then (0,[],2) else (n,sel (mk es.length keep) es,0)
def has (es:List E) (v:Int):Bool:=es.any fun p=>p.1==v||p.2==v
def bl (es:List E):Nat->List Int
 |0=>[]
 |k+1=>bl es k++(if has es k=true then [(k:Int)] else [])
noncomputable def bare (n:Int) (es:List E):TM:=
 if valid n es=false then (0,[],1) else ((bl es n.toNat).length,named (pl n.toNat (bl es n.toNat)) es,0)
end Ed
end
section
open Go.RowKit
theorem Tryz.ox:(Tryz.prog.info? 66).map (fun i=>(i.zero,i.size,i.bytes))=some (some (.agg #[.int .i64 0,.int .i64 0]),2,16):=by kernel_rfl
def dD (ps:List (Int×Int)):List Value:=ps.flatMap fun p=>[.int .i64 p.1,.int .i64 p.2]
theorem cK (ps:List (Int×Int)) (p:Int×Int):dD (ps++[p])=dD ps++[.int .i64 p.1,.int .i64 p.2]:=by simp[dD]
theorem j7:∀ps:List (Int×Int),(dD ps).length=ps.length*2
 |[]=>rfl
 |p::ps=>by
  have:=j7 ps;simp[dD] at this ⊢;omega
theorem iM:∀(ps:List (Int×Int)) (j:Nat) (p:Int×Int),ps[j]? =some p->(dD ps)[j*2]? =some (.int .i64 p.1)/\(dD ps)[j*2+1]? =some (.int .i64 p.2)
 |[],j,p,h=>by simp at h
 |q::ps,0,p,h=>by
  simp at h;subst h;simp[dD]
 |q::ps,j+1,p,h=>by
  simp at h;have:=iM ps j p h;have e:(j+1)*2=j*2+1+1:=by omega
  rw[e];simpa[dD] using this
theorem Ib (g j:Nat):((⟨g,0,none⟩:Addr).add j)=⟨g,j,none⟩:=by
 by_cases h:j=0
 .simp[Addr.add,h]
 .simp[Addr.add,h]
def aL (w:World) (B:Nat) (v:Value) (es:List (Int×Int)):Prop:=w.ownsRow B 66 2 v es.length (dD es)
theorem aL.form {w:World} {B:Nat} {v:Value} {es:List (Int×Int)} (h:aL w B v es):∃ao cap,v= .slice ao es.length cap/\es.length<=cap/\cap<=maxLen/\ah w ao es/\(∀x,ao=some x->B<=x.block/\x.block<w.heap.size):=by
 have h':=h;unfold aL at h';rcases h.2 with ⟨rfl,h0⟩|⟨g,cap,cur,rfl,hg,hh,hc,hm,_⟩
 .refine⟨none,0,by rw[h0],by omega,aaL _,fun j p hj=> ?_,fun x h=>by cases h⟩
  rw[abo.1 h0] at hj;simp at hj
 .refine⟨_,cap,rfl,hc,hm,fun j p hj=>⟨g,0,rfl,?_⟩,fun x h=>by cases h;exact⟨hg,lt_of_block hh⟩⟩
  have hcl:=abP h' (g:=g) rfl;simp only[Ib] at hcl;obtain⟨h0,h1⟩:=iM es j p hj;rw[aa7];exact⟨hcl _ _ h0,hcl _ _ h1⟩
theorem aL.below {w w':World} {B A:Nat} {v:Value} {ps:List (Int×Int)} (h:aL w B v ps) (hb:Below A w w') (hA:w.heap.size<=A):aL w' B v ps:=by
 refine⟨h.1,?_⟩;rcases h.2 with h|⟨g,cap,cur,e,hgB,hh,hr⟩
 .exact .inl h
 .exact .inr ⟨g,cap,cur,e,hgB,(hb.block g (by have:=lt_of_block hh;omega)).trans hh,hr⟩
theorem aL.alloc {w:World} {B:Nat} {v:Value} {ps:List (Int×Int)} (h:aL w B v ps) (o:Obj):aL (w.alloc o) B v ps:=abe h o
theorem aL.far {w:World} {B b:Nat} {v:Value} {ps:List (Int×Int)} (h:aL w B v ps) (hb:b<B):v.ownBlock≠Option.some b:=by
 obtain⟨ao,cap,rfl,_,_,_,hx⟩:=h.form;cases ao with
 |none=>simp[Value.ownBlock]
 |some x=>have:=hx x rfl;simp[Value.ownBlock];omega
theorem aL.TZ {w:World} {B A b:Nat} {v:Value} {ps:List (Int×Int)} (h:aL w B v ps) (hA:A<=b/\b<B) (x y:Value):aL ((w.setCell ⟨b,0,none⟩ x).setCell ⟨b,1,none⟩ y) A v ps:=by
 refine⟨h.1,?_⟩;rcases h.2 with h|⟨g,cap,cur,e,hgB,hh,hr⟩
 .exact .inl h
 .refine .inr ⟨g,cap,cur,e,by omega,?_,hr⟩
  rw[heap_setCell_other _ ⟨b,1,none⟩ g y (by simp;omega),heap_setCell_other _ ⟨b,0,none⟩ g x (by simp;omega)];exact hh
theorem aL.lower {w:World} {B A:Nat} {v:Value} {ps:List (Int×Int)} (h:aL w B v ps) (hA:A<=B):aL w A v ps:=by
 refine⟨h.1,?_⟩;rcases h.2 with h|⟨g,cap,cur,e,hgB,hh,hr⟩
 .exact .inl h
 .exact .inr ⟨g,cap,cur,e,by omega,hh,hr⟩
theorem aL.nil (w:World) (B:Nat):aL w B (.slice none 0 0) []:=abX _ _ _ _
theorem fj (W:World) (k:Nat) (hk:W.heap.size=k) (a b:Value) (t:TypeId):∀j u,[a,b][j]? =some u->(W.alloc (.cells #[a,b] t)).cell? ((⟨k,0,none⟩:Addr).add j)=some u:=by
 subst hk;exact ab7 (cs:= #[a,b]) (t:=t) (fr:=(0,0)) (heap_alloc_new W _)
end
section
open Go.RowKit Go.Sort
theorem zn {ops:Array Oper} {rest:List Oper} {o:Oper} {a:Act} {Q:Exit->Act->World->Prop} (hgd:o.guard=none) (s x:Operand)
 (ho:o.op= .call { callee:= .builtin .append,args:= #[s,x],argTypes:= #[22,22] }) (W:World) (B:Nat) (v:Value) (l:List (Int×Int)) (y z:Int) (hown:aL W B v l)
 (hB:B<=W.heap.size) (hl:l.length<=8796093022000) (hs:a.eval s=v) (hx:a.eval x= .slice (some ⟨W.heap.size,0,none⟩) 1 1)
 (h:∀v' w',aL w' B v' (l++[(y,z)])->Below B W w'->wpList Tryz.prog ops Q rest (a.put o.dst v') w'):
 wpList Tryz.prog ops Q (o::rest) a (W.alloc (.cells #[.int .i64 y,.int .i64 z] 66)):=by
 obtain⟨i0,hi,hz0,hz1,hz2⟩:=info_parts Tryz.ox;have hb0:Below B W (W.alloc (.cells #[.int .i64 y,.int .i64 z] 66)):=(aaE _ _).alloc hB _;refine wpList_append_own _ hgd s x 22 ho B 66 i0 (.agg #[.int .i64 0,.int .i64 0]) 2 16 Tryz.underlying22 hi hz0 hz1 hz2 rfl (by decide) _ _ _ hs (abe hown _) ⟨W.heap.size,0,none⟩ 1 1 [.int .i64 y,.int .i64 z] hx rfl (fj _ _ rfl _ _ _) (by simp[Value.oneCell']) (by unfold maxLen;omega) (by omega) (by simp;omega) ?_;intro v' w' hown' hg _;have ho':aL w' B v' (l++[(y,z)]):=by
  unfold aL;rw[cK,aaN];exact hown'
 exact h v' w' ho' (hb0.grown hg (by simp;omega) (fun b hb=>(aaJ hown b hb).1))
end
section
open Go.Proofs.Tryz
open Go.RowKit Go.Sort
def XD (r:Ed.TM) (w:World) (e:Ending) (w':World):Prop:=
 ∃v,e= .returned (.tuple #[.agg #[.int .i64 r.1,v],.int .i64 r.2.2])/\aL w' w.heap.size v r.2.1/\Below w.heap.size w w'
theorem Dn (c:Int) (w:World):Calls prog 141 #[.int .i64 c] w fun e w'=>e= .returned (.tuple #[.agg #[.int .i64 0,.slice none 0 0],.int .i64 c])/\Below w.heap.size w w':=by
 go_enter func141,ntmps141;go_wp2;refine bodyPost_ret (v:= .tuple #[.agg #[.int .i64 0,.slice none 0 0],.int .i64 c]) (by simp[results,results141,go_sem]) rfl ?_;exact⟨rfl,by first|exact(((aaE _ _).alloc (aaD _) _).setCell (by simp) _).setCell (by simp) _|exact(aaE _ _).alloc (aaD _) _⟩
theorem Gy {x c:Int} (h0:0<=x) (h1:x<c) (w:World):Calls prog 142 #[.int .i64 x,.int .i64 c] w fun e w'=>e= .returned (.bool true)/\w'=w:=by
 go_enter func142,ntmps142;go_wp2;go_ret;exact⟨rfl,rfl⟩
theorem Kp {x c:Int} (h:x<0\/c<=x) (w:World):Calls prog 142 #[.int .i64 x,.int .i64 c] w fun e w'=>e= .returned (.bool false)/\w'=w:=by
 by_cases h0:0<=x
 .have h1:¬x<c:=by omega
  clear h;go_enter func142,ntmps142;go_wp2;go_ret;exact⟨rfl,rfl⟩
 .clear h
  go_enter func142,ntmps142;go_wp2;go_ret;exact⟨rfl,rfl⟩
end
section
open Go.RowKit
theorem lY (a b c d:Int) (w:World):(Op.equalIn 10000 66 (.agg #[.int .i64 a,.int .i64 b]) (.agg #[.int .i64 c,.int .i64 d])).run Tryz.prog w= .ok (a==c&&b==d) w:=by
 have u3:=Tryz.underlying3;have a3:=Tryz.isAgg3;have z3:=Tryz.sizeOf3;have hS:Tryz.prog.underlying 66=some (.struct (Tryz.prog.fieldsOf 66)):=by kernel_rfl
 rw[show(10000:Nat)=9999+1 from rfl,run_equalIn_agg w 9999 66 _ _ hS (by kernel_rfl)];simp only[Program.fieldsOf,Tryz.underlying66];go_simp;by_cases h1:a=c<;>by_cases h2:b=d<;>simp[h1,h2]
end
namespace Nu
def pre (ts:List Tok):Except (Nat×Int) (List Tok)->Except (Nat×Int) (List Tok)
 | .error x=> .error x
 | .ok us=> .ok (ts++us)
theorem pre_nil (r:Except (Nat×Int) (List Tok)):pre [] r=r:=by cases r<;>rfl
theorem LP (a b:List Tok) (r:Except (Nat×Int) (List Tok)):pre a (pre b r)=pre (a++b) r:=by cases r<;>simp[pre]
theorem fG {g:Nat->Int} {n p:Nat} {x:Nat×Int} (k:Nat) (h:next g n p= .error x):b7 g n (k+1) p= .error x:=by simp[b7,h]
theorem gH {g:Nat->Int} {n p p':Nat} {t:Tok} (k:Nat) (h:next g n p= .ok (t,p')) (h3:t.kind=3):b7 g n (k+1) p= .ok [t]:=by simp[b7,h,h3]
theorem gG {g:Nat->Int} {n p p':Nat} {t:Tok} (k:Nat) (h:next g n p= .ok (t,p')) (h3:t.kind≠3):b7 g n (k+1) p=pre [t] (b7 g n k p'):=by
 simp only[b7,h,if_neg h3];cases b7 g n k p'<;>rfl
theorem gM {g:Nat->Int} {n p p':Nat} {t:Tok} (hp:p<=n) (h:next g n p= .ok (t,p')):p'<=n/\(t.kind≠3->p<p'):=by
 have hs:=fF ak g n p hp;by_cases h1:skip ak g n p=n
 .rw[h1] at hs
  rw[kQ hs] at h;cases h;exact⟨aaD _,fun h=>absurd rfl h⟩
 .have hlt:skip ak g n p<n:=acz hs.hi h1
  have hlo:=hs.lo;cases hd:isDigit (g (skip ak g n p))
  .by_cases h10:g (skip ak g n p)=10
   .rw[iY hs hlt h10] at h
    cases h;exact⟨hlt,fun _=>by omega⟩
   .rw[iZ hs hlt hd h10] at h
    cases h
  .have hr:=fF isDigit g n (skip ak g n p) hs.hi
   have hrl:skip ak g n p<skip isDigit g n (skip ak g n p):=by
    rcases abk (skip ak g n p) (skip isDigit g n (skip ak g n p)) with h'|h'
    .exact h'
    .have e:=acJ hr.lo h'
     have:=hr.stop (by rw[<-e];exact hlt);rw[<-e,hd] at this;cases this
   by_cases hb:9<skip isDigit g n (skip ak g n p)-skip ak g n p\/(1<skip isDigit g n (skip ak g n p)-skip ak g n p/\g (skip ak g n p)=48)
   .rw[kS hs hlt hd hr hb] at h
    cases h
   .rw[kP hs hlt hd hr hb] at h
    cases h;exact⟨hr.hi,fun _=>by omega⟩
theorem xd {g:Nat->Int} {n p p':Nat} {t:Tok} (hp:p<=n) (h:next g n p= .ok (t,p')):
 (t.kind=1\/t.kind=2\/t.kind=3)/\0<=t.at'/\t.at'<=n/\0<=t.fin/\t.fin<=n/\0<=t.num/\t.num<1000000000:=by
 have hs:=fF ak g n p hp;have hhi:=hs.hi;by_cases h1:skip ak g n p=n
 .rw[h1] at hs
  rw[kQ hs] at h;cases h;exact⟨by simp,by simp⟩
 .have hlt:skip ak g n p<n:=acz hs.hi h1
  cases hd:isDigit (g (skip ak g n p))
  .by_cases h10:g (skip ak g n p)=10
   .rw[iY hs hlt h10] at h
    cases h;refine⟨by simp,?_⟩;dsimp only;omega
   .rw[iZ hs hlt hd h10] at h
    cases h
  .have hr:=fF isDigit g n (skip ak g n p) hs.hi
   have Z9:=hr.hi;by_cases hb:9<skip isDigit g n (skip ak g n p)-skip ak g n p\/(1<skip isDigit g n (skip ak g n p)-skip ak g n p/\g (skip ak g n p)=48)
   .rw[kS hs hlt hd hr hb] at h
    cases h
   .rw[kP hs hlt hd hr hb] at h
    cases h;have hv:=Aa g (skip ak g n p) (skip isDigit g n (skip ak g n p)-skip ak g n p) (by omega) (fun i hi=>by
     have:=hr.all (skip ak g n p+i) (by omega) (by omega);simpa[isDigit] using this)
    refine⟨by simp,?_⟩;dsimp only;omega
theorem Dd {g:Nat->Int} {n:Nat} {k p:Nat} {t:Tok} {ts:List Tok} (hp:p<=n) (h:b7 g n k p= .ok (t::ts)):
 ∃p',next g n p= .ok (t,p')/\p'<=n/\∃k',b7 g n k' p'= .ok ts:=by
 cases k with
 |zero=>simp[b7] at h
 |succ k=>
  cases hx:next g n p with
  |error x=>rw[fG k hx] at h;cases h
  |ok y=>
   obtain⟨u,p'⟩:=y;have hm:=gM hp hx;by_cases h3:u.kind=3
   .rw[gH k hx h3] at h
    cases h;exact⟨p',rfl,hm.1,0,rfl⟩
   .rw[gG k hx h3] at h
    cases hr:b7 g n k p' with
    |error x=>rw[hr] at h;cases h
    |ok us=>
     rw[hr] at h;simp only[pre,Except.ok.injEq,abC,abA,ab2] at h;obtain⟨rfl,rfl⟩:=h;exact⟨p',rfl,hm.1,k,hr⟩
theorem pq {g:Nat->Int} {n:Nat}:∀{k p:Nat} {ts:List Tok},p<=n->b7 g n k p= .ok ts->ts.length<=n-p+1
 |0,p,ts,_,h=>by simp[b7] at h;subst h;simp
 |k+1,p,ts,hp,h=>by
  cases hx:next g n p with
  |error x=>rw[fG k hx] at h;cases h
  |ok y=>
   obtain⟨u,p'⟩:=y;have hm:=gM hp hx;by_cases h3:u.kind=3
   .rw[gH k hx h3] at h
    cases h;simp
   .rw[gG k hx h3] at h
    cases hr:b7 g n k p' with
    |error x=>rw[hr] at h;cases h
    |ok us=>
     rw[hr] at h;cases h;have ih:=pq hm.1 hr;have:=hm.2 h3;simp;omega
theorem qK {g:Nat->Int} {n:Nat} {ts:List Tok} (h:scan g n= .ok ts):ts.length<=n+1:=by
 have:=pq (aaL _) h;omega
end Nu
namespace Nu
theorem Gp {g:Nat->Int} {n p:Nat} {x:Nat×Int} (hp:p<=n) (h:next g n p= .error x):(x.2=11\/x.2=12)/\x.1<n:=by
 have hs:=fF ak g n p hp;by_cases h1:skip ak g n p=n
 .rw[h1] at hs
  rw[kQ hs] at h;cases h
 .have hlt:skip ak g n p<n:=acz hs.hi h1
  cases hd:isDigit (g (skip ak g n p))
  .by_cases h10:g (skip ak g n p)=10
   .rw[iY hs hlt h10] at h
    cases h
   .rw[iZ hs hlt hd h10] at h
    cases h;exact⟨.inl rfl,hlt⟩
  .have hr:=fF isDigit g n (skip ak g n p) hs.hi
   by_cases hb:9<skip isDigit g n (skip ak g n p)-skip ak g n p\/(1<skip isDigit g n (skip ak g n p)-skip ak g n p/\g (skip ak g n p)=48)
   .rw[kS hs hlt hd hr hb] at h
    cases h;exact⟨.inr rfl,hlt⟩
   .rw[kP hs hlt hd hr hb] at h
    cases h
theorem tQ {g:Nat->Int} {n:Nat} {x:Nat×Int}:∀{k p:Nat},p<=n->b7 g n k p= .error x->(x.2=11\/x.2=12)/\x.1<n
 |0,p,_,h=>by simp[b7] at h
 |k+1,p,hp,h=>by
  cases hx:next g n p with
  |error y=>
   rw[fG k hx] at h;cases h;exact Gp hp hx
  |ok y=>
   obtain⟨u,p'⟩:=y;have hm:=gM hp hx;by_cases h3:u.kind=3
   .rw[gH k hx h3] at h
    cases h
   .rw[gG k hx h3] at h
    cases hr:b7 g n k p' with
    |error y=>
     rw[hr] at h;cases h;exact tQ hm.1 hr
    |ok us=>rw[hr] at h;cases h
theorem wH {g:Nat->Int} {n:Nat} {x:Nat×Int} (h:scan g n= .error x):(x.2=11\/x.2=12)/\x.1<n:=tQ (aaL _) h
end Nu
namespace Nu
def ofBytes (l:List UInt8):Nat->Int:=fun i=>((l.getD i 0).toNat:Int)
theorem zx (a b:List UInt8) (i:Nat) (h:i<a.length):ofBytes (a++b) i=ofBytes a i:=by
 simp[ofBytes,aaU h]
theorem Pv {u:Nat} (h:0<u):ofBytes (Lib.decDigits u) 0≠48:=by
 induction u using Nat.strongRecOn with
 |_ u ih=>
  by_cases h9:u<10
  .rw[Lib.decDigits_one h9]
   simp[ofBytes];omega
  .have hne:0<(Lib.decDigits (u/10)).length:=by
    rw[acM];unfold Lib.nDigits
    split<;>omega
   rw[Lib.decDigits,dif_neg h9,zx _ _ _ hne];exact ih (u/10) (by omega) (by omega)
theorem ug:∀(k u:Nat),u<10 ^ (k+1)->Lib.nDigits u<=k+1
 |0,u,h=>by unfold Lib.nDigits;rw[dif_pos (by omega)];exact aaD _
 |k+1,u,h=>by
  unfold Lib.nDigits
  split
  .omega
  .have:=ug k (u/10) (by rw[Nat.pow_succ] at h;omega)
   omega
theorem zQ {u:Nat} (h:u<=999999999):(Lib.decDigits u).length<=9:=by
 rw[acM];exact ug 8 u (by omega)
theorem Cl (u:Nat):0<(Lib.decDigits u).length:=by
 rw[acM];unfold Lib.nDigits
 split<;>omega
theorem DZ {x:Int} (h0:0<=x):Lib.itoa x=Lib.decDigits x.toNat:=by unfold Lib.itoa;rw[if_neg (by omega)]
section
end
end Nu
section
namespace Ce
open Nu
structure Cert where
 pl:Bool
 ar:List (List Int)
 es:List (Int×Int)
def zero:Cert:=⟨false,[],[]⟩
section
variable (B:Nat->Int) (n:Nat)
def E3 (i:Nat):Nat:=skip isDigit B n i
def Gm (i:Nat):Prop:=i<E3 B n i/\E3 B n i-i<=9/\(E3 B n i-i=1\/B i≠48)
instance (i:Nat):Decidable (Gm B n i):=by unfold Gm;infer_instance
def num (i:Nat):Option (Int×Nat):=if Gm B n i then some (val B i (E3 B n i-i),E3 B n i) else none
def Qa:Nat->List Int->Nat->Except Nat (List Int×Nat)
 |0,_,i=> .error i
 |f+1,l,i=>match num B n i with
  |none=> .error i
  |some (v,k)=>if l≠[]/\v<l.headD 0 then .error i else if B k=10 then .ok (l++[v],k+1) else if B k=32 then Qa f (l++[v]) (k+1) else .error k
def oQ (i:Nat):Except Nat (List Int×Nat):=if B i=10 then .ok ([],i+1) else Qa B n (n+1) [] i
def YR (i:Nat) (last:Int×Int):Except Nat ((Int×Int)×Nat):=
 match num B n i with
 |none=> .error i
 |some (u,k)=>if B k≠32 then .error k else match num B n (k+1) with
  |none=> .error (k+1)
  |some (v,e)=>if v<=u then .error (k+1) else if u<last.1\/(u=last.1/\v<=last.2) then .error i else if B e≠10 then .error e else .ok ((u,v),e+1)
def tu:Nat->List (Int×Int)->Int×Int->Nat->Except Nat (List (Int×Int)×Nat)
 |0,es,_,i=> .ok (es,i)
 |k+1,es,last,i=>match YR B n i last with
  | .error e=> .error e
  | .ok (p,j)=>tu k (es++[p]) p j
end
def dg (x:Int):List UInt8:=Lib.decDigits x.toNat
def jn:List Int->List UInt8
 |[]=>[]
 |[x]=>dg x
 |x::y::r=>dg x++32::jn (y::r)
def bK (l:List Int):List UInt8:=jn l++[10]
def jq (p:Int×Int):List UInt8:=dg p.1++32::(dg p.2++[10])
def yG (c:Cert):List UInt8:=if c.pl then c.ar.flatMap bK else c.es.flatMap jq
def E8 (c:Cert):Nat:=if c.pl then c.ar.length else c.es.length
def eP (c:Cert):List UInt8:=[if c.pl then 112 else 110,32]++(dg (E8 c)++10::yG c)
def fN (x:Int):Prop:=0<=x/\x<=999999999
def LS (l:List Int):Prop:=∀x∈l,fN x/\l.headD 0<=x
def J7 (es:List (Int×Int)):Prop:=(∀p∈es,fN p.1/\fN p.2/\p.1<p.2)/\∀i p q,es[i]? =some p->es[i+1]? =some q->p.1<q.1\/(p.1=q.1/\p.2<q.2)
def good (c:Cert):Prop:=if c.pl then c.es=[]/\(∀l∈c.ar,LS l)/\c.ar.length<=1048576 else c.ar=[]/\J7 c.es/\c.es.length<=4194304
theorem E2 (x:Int):0<(dg x).length:=Cl _
theorem oF {x:Int} (h:fN x):(dg x).length<=9:=zQ (by have:=h.1;have:=h.2;omega)
end Ce
end
namespace Ck
abbrev E:=Int×Int
def aP:List E->List E->Nat->List Nat
 |[],_,_=>[]
 |_::_,[],_=>[]
 |x::xs,e::es,i=>if x=e then i::aP xs es (i+1) else aP (x::xs) es (i+1)
theorem om (es:List E) (i:Nat):aP [] es i=[]:=by cases es<;>simp[aP]
theorem qX:∀(es xs:List E) (i k:Nat),k∈aP xs es i->i<=k/\k<i+es.length
 |[],xs,i,k,h=>by cases xs<;>simp[aP] at h
 |e::es,[],i,k,h=>by simp[aP] at h
 |e::es,x::xs,i,k,h=>by
  unfold aP at h
  split at h
  .rcases aaW.1 h with h|h
   .subst h;simp
   .have:=qX es xs (i+1) k h
    simp;omega
  .have:=qX es (x::xs) (i+1) k h
   simp;omega
theorem ot:∀(es xs:List E) (i:Nat),(aP xs es i).length<=xs.length/\(aP xs es i).length<=es.length
 |[],xs,i=>by cases xs<;>simp[aP]
 |e::es,[],i=>by simp[aP]
 |e::es,x::xs,i=>by
  unfold aP
  split
  .have:=ot es xs (i+1)
   simp;omega
  .have:=ot es (x::xs) (i+1)
   simp at this ⊢;omega
theorem iL:∀(es xs:List E) (i:Nat),(aP xs es i).length=xs.length->xs.Sublist es
 |[],[],i,_=>by simp
 |[],x::xs,i,h=>by simp[aP] at h
 |e::es,[],i,h=>by simp
 |e::es,x::xs,i,h=>by
  unfold aP at h
  split at h
  .rename_i hx
   subst hx;exact(iL es xs (i+1) (by simpa using h)).cons_cons _
  .exact(iL es (x::xs) (i+1) h).cons _
theorem I6 (a:E):¬Si.lt a a:=by unfold Si.lt;omega
theorem lt_trans {a b c:E} (h:Si.lt a b) (h':Si.lt b c):Si.lt a c:=by unfold Si.lt at *;omega
theorem ou:∀(es xs:List E) (i:Nat),es.Pairwise Si.lt->xs.Pairwise Si.lt->(∀x∈xs,x∈es)->(aP xs es i).length=xs.length
 |[],[],i,_,_,_=>by simp[aP]
 |[],x::xs,i,_,_,h=>by simpa using h x (by simp)
 |e::es,[],i,_,_,_=>by simp[aP]
 |e::es,x::xs,i,he,hx,h=>by
  rw[abm] at he;have hx':=abm.1 hx;unfold aP
  split
  .rename_i e0
   subst e0;have:=ou es xs (i+1) he.2 hx'.2 fun y hy=>by
    rcases aaW.1 (h y (by simp[hy])) with e1|e1
    .subst e1;exact absurd (hx'.1 _ hy) (I6 _)
    .exact e1
   simp[this]
  .rename_i e0
   have mH:x∈es:=by
    rcases aaW.1 (h x (by simp)) with e1|e1
    .exact absurd e1 e0
    .exact e1
   exact ou es (x::xs) (i+1) he.2 hx fun y hy=>by
    rcases aaW.1 (h y hy) with e1|e1
    .subst e1
     rcases aaW.1 hy with e2|e2
     .exact absurd e2.symm e0
     .exact absurd (lt_trans (hx'.1 _ e2) (he.1 _ mH)) (I6 _)
    .exact e1
theorem I4 (m:Nat) (keep:List Int):∀(k t:Nat),t<m->(Ed.zz m keep k)[t]? =some (decide (∃j,j<k/\(keep.getD j 0).toNat=t))
 |0,t,h=>by simp[Ed.zz,h]
 |k+1,t,h=>by
  unfold Ed.zz;rw[aaR];by_cases e:(keep.getD k 0).toNat=t
  .rw[if_pos e,if_pos (by rw[Ed.gN];omega)]
   congr 1
   symm;rw[decide_eq_true_iff];exact⟨k,by omega,e⟩
  .rw[if_neg e,I4 m keep k t h]
   congr 1
   rw[decide_eq_decide];constructor
   .rintro⟨j,hj,hj'⟩;exact⟨j,by omega,hj'⟩
   .rintro⟨j,hj,hj'⟩
    by_cases ej:j=k
    .subst ej;exact absurd hj' e
    .exact⟨j,by omega,hj'⟩
theorem nY:∀(es xs:List E) (i:Nat) (b:List Bool),b.length=es.length->(∀t,t<es.length->b[t]? =some (decide (i+t∈aP xs es i)))->(aP xs es i).length=xs.length->Ed.sel b es=xs
 |[],[],i,b,_,_,_=>by cases b<;>simp[Ed.sel]
 |[],x::xs,i,b,_,_,h=>by simp[aP] at h
 |e::es,xs,i,[],hl,_,_=>by simp at hl
 |e::es,[],i,c::b,hl,hb,_=>by
  have h0:=hb 0 (by simp);simp[aP] at h0;subst h0;simp only[Ed.sel];refine nY es [] (i+1) b (by simpa using hl) (fun t ht=> ?_) (by simp[om]);have:=hb (t+1) (by simpa using ht);simpa[om] using this
 |e::es,x::xs,i,c::b,hl,hb,hn=>by
  have h0:=hb 0 (by simp);have hr:=fun t (ht:t<es.length)=>hb (t+1) (by simpa using ht)
  unfold aP at h0 hr hn
  split at hn
  .rename_i e0
   subst e0;simp at h0;subst h0;simp only[Ed.sel]
   congr 1
   refine nY es xs (i+1) b (by simpa using hl) (fun t ht=> ?_) (by simpa using hn);have:=hr t ht;rw[if_pos rfl] at this;rw[abN] at this;rw[this]
   congr 1
   rw[decide_eq_decide,aaW,show i+(t+1)=i+1+t by omega];constructor
   .rintro(h|h)
    .omega
    .exact h
   .exact .inr
  .rename_i e0
   rw[if_neg e0] at h0;simp at h0;have hc:c=false:=by
    cases c
    .rfl
    .exact absurd (qX _ _ _ _ (by simpa using h0)).1 (by omega)
   subst hc;simp only[Ed.sel];refine nY es (x::xs) (i+1) b (by simpa using hl) (fun t ht=> ?_) hn;have:=hr t ht;rw[if_neg e0,abN,show i+(t+1)=i+1+t by omega] at this;exact this
def keep (xs es:List E):List Int:=(aP xs es 0).map fun (k:Nat)=>(k:Int)
theorem sJ (xs es:List E):(keep xs es).length=(aP xs es 0).length:=by simp[keep]
theorem Ml {xs es:List E}:∀x∈keep xs es,0<=x/\x<(es.length:Int):=fun x hx=>by
 obtain⟨k,hk,rfl⟩:=abu.1 hx;have:=qX _ _ _ _ hk;omega
theorem JT {xs es:List E} (h:(aP xs es 0).length=xs.length):Ed.sel (Ed.mk es.length (keep xs es)) es=xs:=by
 refine nY es xs 0 _ (by unfold Ed.mk;rw[Ed.gN]) (fun t ht=> ?_) h;unfold Ed.mk;rw[I4 _ _ _ _ ht]
 congr 1
 rw[decide_eq_decide];constructor
 .rintro⟨j,hj,e⟩
  rw[sJ] at hj;have e2:(keep xs es).getD j 0=((aP xs es 0)[j]:Int):=by
   rw[aaI];unfold keep;rw[aaY,aaC hj];rfl
  rw[e2] at e;have e3:(aP xs es 0)[j]=t:=by omega
  rw[aa7,<-e3];exact ab6 hj
 .intro hm
  rw[aa7] at hm;obtain⟨j,hj,e⟩:=List.getElem_of_mem hm;refine⟨j,by rw[sJ];exact hj,?_⟩;rw[aaI];unfold keep;rw[aaY,aaC hj,e];simp
theorem Aq {es:List E} (h:∀(i:Nat) (p q:E),es[i]? =some p->es[i+1]? =some q->Si.lt p q):es.Pairwise Si.lt:=by
 induction es with
 |nil=>exact List.Pairwise.nil
 |cons e r ih=>
  have hr:=ih fun i p q hp hq=>h (i+1) p q (by simpa using hp) (by simpa using hq)
  refine abm.2 ⟨fun x hx=> ?_,hr⟩;cases r with
  |nil=>simp at hx
  |cons f r'=>
   have h0:=h 0 e f rfl rfl;rcases aaW.1 hx with e1|e1
   .rw[e1];exact h0
   .exact lt_trans h0 ((abm.1 hr).1 x e1)
theorem OG {es:List E} (h:es.Pairwise Si.lt) (i:Nat) (p q:E) (hp:es[i]? =some p) (hq:es[i+1]? =some q):Si.lt p q:=by
 obtain⟨h1,rfl⟩:=aaF.1 hp;obtain⟨h2,rfl⟩:=aaF.1 hq;exact aa8.1 h i (i+1) h1 h2 (by omega)
theorem val_sub {n:Int} {xs es:List E} (hv:Si.Val n es) (h:xs.Sublist es):Si.Val n xs:=by
 have hp:=(Aq hv.up).sublist h;refine⟨hv.lo,hv.hi,aaM h.length_le hv.few,fun j p hj=> ?_,OG hp⟩;obtain⟨k,hk⟩:=abf (h.subset (aaG hj));exact hv.each k p hk
theorem oq {n:Int} {xs es:List E} (hv:Si.Val n es) (hx:Ce.J7 xs):(aP xs es 0).length=xs.length↔∀x∈xs,x∈es:=
 ⟨fun h=>(iL es xs 0 h).subset,ou es xs 0 (Aq hv.up) (Aq hx.2)⟩
theorem drop_cons {l:List E} {k:Nat} {p:E} (h:l[k]? =some p):l.drop k=p::l.drop (k+1):=by
 obtain⟨h1,rfl⟩:=aaF.1 h;exact acY h1
theorem Ai {xs es:List E} {L:List Nat} {j k:Nat} {p:E} (h:aP xs es 0=L++aP (xs.drop j) (es.drop k) k) (hx:xs[j]? =some p) (he:es[k]? =some p):aP xs es 0=(L++[k])++aP (xs.drop (j+1)) (es.drop (k+1)) (k+1):=by
 rw[h,drop_cons hx,drop_cons he];simp[aP]
theorem C9 {xs es:List E} {L:List Nat} {j k:Nat} {x p:E} (h:aP xs es 0=L++aP (xs.drop j) (es.drop k) k) (hx:xs[j]? =some x) (he:es[k]? =some p) (hne:x≠p):aP xs es 0=L++aP (xs.drop j) (es.drop (k+1)) (k+1):=by
 rw[h,drop_cons hx,drop_cons he];simp[aP,hne]
theorem wq {xs es:List E} {L:List Nat} {j k:Nat} (h:aP xs es 0=L++aP (xs.drop j) (es.drop k) k) (hj:xs.length<=j):aP xs es 0=L++aP (xs.drop j) (es.drop (k+1)) (k+1):=by
 rw[h,List.drop_eq_nil_of_le hj,om,om]
theorem step_end {xs es:List E} {L:List Nat} {j k:Nat} (h:aP xs es 0=L++aP (xs.drop j) (es.drop k) k) (hk:es.length<=k):aP xs es 0=L:=by
 rw[h,List.drop_eq_nil_of_le hk];cases xs.drop j<;>simp[aP]
end Ck
end Go.Proofs.YtdbjpbjocmcpkaaGreatDoor
