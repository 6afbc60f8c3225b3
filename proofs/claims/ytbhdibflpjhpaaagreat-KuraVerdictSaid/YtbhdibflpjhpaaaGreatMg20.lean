import Derived.Test.YtbhdibflpjhpaaaGreatMg02
set_option maxHeartbeats 4000000
set_option maxRecDepth 100000
namespace Go.Proofs.YtbhdibflpjhpaaaGreat
namespace Lt
abbrev Iv:=Int×Int
abbrev Pr:=Iv×Iv
abbrev aP:Iv:=(-1,-1)
abbrev dN:Pr:=(aP,aP)
abbrev kC:=Int×Int×Pr
def bF (l:List Int) (i:Int):Option Int:=if 0<=i then l[i.toNat]? else none
def fE (l:List Int) (i z:Int):Option (List Int):=if 0<=i/\i<(l.length:Int) then some (l.set i.toNat z) else none
structure Env where
 lw:List Int
 outs:List (List Int)
 par:List Int
 ay:List Int
 ord:List Int
 aT:List Int
 us:List Int
 vs:List Int
structure TS where
 like:List Int
 turn:List Int
 lowest:List Int
 stk:List Pr
 way:List kC
def top:List Pr->Pr
 |[]=>dN
 |p::_=>p
def turned (p:Pr):Pr:=(p.2,p.1)
def join (like:List Int) (u l:Iv):Option (List Int×Iv):=
 if u=aP then some (like,l) else if l=aP then some (like,u) else
 match fE like u.2 l.1 with
 |none=>none
 |some aC=>some (aC,(u.1,l.2))
def gW (lw:List Int) (i:Iv) (e:Int):Option Bool:=
 if i=aP then some false else
 match bF lw i.1,bF lw e with
 |some a,some b=>some (decide (b<a))
 |_,_=>none
def own (lw lowest:List Int) (above:Int) (bottom:Pr):List Pr->List Int->Iv->Option (Option (List Pr×List Int×Iv))
 |[],like,o=>if dN=bottom then some (some ([],like,o)) else none
 |p::ps,like,o=>
  if p=bottom then some (some (p::ps,like,o)) else
  if (if p.2=aP then p.2 else p.1)≠aP then some none else
  match bF lw (if p.2=aP then p.1 else p.2).2,bF lw above with
  |some a,some b=>
   if a=b then
    match bF lowest above with
    |none=>none
    |some x=>
     match fE like (if p.2=aP then p.1 else p.2).2 x with
     |none=>none
     |some aC=>own lw lowest above bottom ps aC o
   else
    match join like o (if p.2=aP then p.1 else p.2) with
    |none=>none
    |some (aC,o')=>own lw lowest above bottom ps aC o'
  |_,_=>none
def others (lw:List Int) (e:Int):List Pr->List Int->Pr->Option (Option (List Pr×List Int×Pr))
 |[],like,p=>some (some ([],like,p))
 |q::qs,like,p=>
  match gW lw q.1 e,gW lw q.2 e with
  |some true,some true=>some none
  |some false,some false=>some (some (q::qs,like,p))
  |some l,some _=>
   match join like p.1 (if l=true then q else turned q).1 with
   |none=>none
   |some (fA,i1)=>
    match join fA p.2 (if l=true then q else turned q).2 with
    |none=>none
    |some (fy,i2)=>others lw e qs fy (i1,i2)
  |_,_=>none
def mg (E:Env) (st:TS) (e above:Int):Option (Option TS):=
 match st.way with
 |[]=>none
 |v::_=>
  match own E.lw st.lowest above v.2.2 st.stk st.like aP with
  |none=>none
  |some none=>some none
  |some (some (ps,like,o))=>
   match others E.lw e ps like (aP,o) with
   |none=>none
   |some none=>some none
   |some (some (qs,aC,p))=>some (some { st with like:=aC,stk:=if p=dN then qs else p::qs })
def least (lw:List Int) (p:Pr):Option Int:=
 if p.1=aP then bF lw p.2.2 else if p.2=aP then bF lw p.1.2 else
 match bF lw p.1.2,bF lw p.2.2 with
 |some a,some b=>some (min a b)
 |_,_=>none
def jD (lw:List Int) (h:Int):List Pr->List Int->Option (List Pr×List Int)
 |[],turn=>some ([],turn)
 |p::ps,turn=>
  if p=dN then none else
  match least lw p with
  |none=>none
  |some a=>
   if a=h then
    if p.1=aP then jD lw h ps turn else
    match fE turn p.1.2 (-1) with
    |none=>none
    |some bz=>jD lw h ps bz
   else some (p::ps,turn)
def down (lw like:List Int) (h:Int):Nat->Int->Option Int
 |0,_=>none
 |k+1,x=>
  if x= -1 then some x else
  match bF lw x with
  |none=>none
  |some a=>
   if a=h then
    match bF like x with
    |none=>none
    |some y=>down lw like h k y
   else some x
def cut (lw:List Int) (h:Int) (like turn:List Int) (i o:Iv):Option (List Int×List Int×Iv):=
 if i=aP then some (like,turn,i) else
 match down lw like h (like.length+1) i.1 with
 |none=>none
 |some x=>
  if x= -1 then
   match fE like i.2 o.2,fE turn i.2 (-1) with
   |some aC,some bz=>some (aC,bz,aP)
   |_,_=>none
  else some (like,turn,(x,i.2))
def trim (lw:List Int) (h:Int) (st:TS):Option TS:=
 match jD lw h st.stk st.turn with
 |none=>none
 |some ([],turn)=>some { st with stk:=[],turn:=turn }
 |some (p::ps,turn)=>
  if p=dN then none else
  match cut lw h st.like turn p.1 p.2 with
  |none=>none
  |some (fA,gR,l)=>
   match cut lw h fA gR p.2 l with
   |none=>none
   |some (fy,wJ,r)=>some { st with stk:=(l,r)::ps,like:=fy,turn:=wJ }
def Rj (E:Env) (h:Int):Option Int:=if h.tmod 2=0 then bF E.vs (h.tdiv 2) else bF E.us (h.tdiv 2)
def OJ (E:Env) (h:Int):Option Int:=if h.tmod 2=0 then bF E.us (h.tdiv 2) else bF E.vs (h.tdiv 2)
def back? (E:Env) (h:Int):Option Bool:=((Rj E h).bind (bF E.par)).map fun p=>decide (p≠h)
def Bf (E:Env) (h:Int):Option Int:=(OJ E h).bind (bF E.ay)
def settle (E:Env) (st:TS) (h:Int):Option (Option TS):=
 match bF E.lw (h.tdiv 2),Bf E h with
 |some a,some b=>
  if a<b then
   match (OJ E h).bind (bF E.par),(OJ E h).bind fun v=>E.outs[v.toNat]?.bind fun l=>l[0]? with
   |some p,some o=>
    if o=h then
     match bF st.lowest (h.tdiv 2) with
     |none=>none
     |some x=>
      match fE st.lowest (p.tdiv 2) x with
      |none=>none
      |some lowest=>some (some { st with lowest:=lowest })
    else mg E st (h.tdiv 2) (p.tdiv 2)
   |_,_=>none
  else some (some st)
 |_,_=>none
def enter (st:TS) (v:Int):TS:={ st with way:=(v,0,dN)::st.way }
def A7 (E:Env) (st:TS) (h:Int):Option (Option TS):=
 match back? E h with
 |none=>none
 |some false=>(Rj E h).map fun v=>some (enter st v)
 |some true=>
  match fE st.lowest (h.tdiv 2) (h.tdiv 2) with
  |none=>none
  |some lowest=>settle E { st with lowest:=lowest,stk:=(aP,(h.tdiv 2,h.tdiv 2))::st.stk } h
def leave (E:Env) (st:TS):Option (Option TS):=
 match st.way with
 |[]=>none
 |v::way=>
  match bF E.par v.1 with
  |none=>none
  |some h=>
   if h= -1 then some (some { st with way:=way }) else
   match Bf E h with
   |none=>none
   |some b=>
    match trim E.lw b { st with way:=way } with
    |none=>none
    |some st'=>settle E st' h
def step (E:Env) (st:TS):Option (Option TS):=
 match st.way with
 |[]=>none
 |v::way=>
  if 0<=v.1/\0<=v.2.1 then
   match E.outs[v.1.toNat]? with
   |none=>none
   |some l=>
    if v.2.1=(l.length:Int) then leave E st else
    match l[v.2.1.toNat]? with
    |none=>none
    |some h=>A7 E { st with way:=(v.1,v.2.1+1,top st.stk)::way } h
  else none
def run (E:Env):Nat->TS->Option (Option TS)
 |k,st=>
  if st.way=[] then some (some st) else
  match k with
  |0=>none
  |k+1=>
   match step E st with
   |none=>none
   |some none=>some none
   |some (some st')=>run E k st'
def trees (E:Env) (k:Nat):List Int->TS->Option (Option TS)
 |[],st=>some (some st)
 |v::l,st=>
  match bF E.par v with
  |none=>none
  |some p=>
   if p= -1 then
    match run E k (enter st v) with
    |none=>none
    |some none=>some none
    |some (some st')=>trees E k l st'
   else trees E k l st
def start (m:Nat):TS:=⟨List.replicate m (-1),List.replicate m 1,List.replicate m (-1),[],[]⟩
def side:Nat->List Int->List Int->Int->Option (List Int×List Int)
 |0,_,_,_=>none
 |k+1,like,turn,x=>
  match bF like x with
  |none=>none
  |some y=>
   if y= -1 then some (like,turn) else
   match side k like turn y with
   |none=>none
   |some (fA,gR)=>
    match bF fA x with
    |none=>none
    |some y'=>
     match bF gR x,bF gR y',fE fA x (-1) with
     |some a,some b,some fy=>
      match fE gR x (a*b) with
      |none=>none
      |some wJ=>some (fy,wJ)
     |_,_,_=>none
def sides (E:Env) (k:Nat):List Int->List Int->List Int->List Int->Option (List Int)
 |[],_,_,p=>some p
 |h::hs,like,turn,p=>
  match back? E h with
  |none=>none
  |some false=>sides E k hs like turn (p++[0])
  |some true=>
   match side k like turn p.length with
   |none=>none
   |some (aC,bz)=>
    match bF bz p.length with
    |none=>none
    |some x=>sides E k hs aC bz (p++[x])
def test (E:Env) (k m:Nat):Option (Option (List Int)):=
 match trees E k E.ord (start m) with
 |none=>none
 |some none=>some none
 |some (some st)=>(sides E k E.aT st.like st.turn []).map some
theorem Rw {E:Env}:∀(k:Nat) (st:TS) {r:Option TS},run E k st=some r->∀d,run E (k+d) st=some r:=by
 intro k
 induction k with
 |zero=>
  intro st r h d;unfold run at h ⊢
  split at h
  .rename_i hw
   rw[if_pos hw];exact h
  .cases h
 |succ k ih=>
  intro st r h d;unfold run at h ⊢
  split at h
  .rename_i hw
   rw[if_pos hw];exact h
  .rename_i hw
   rw[if_neg hw,show k+1+d=(k+d)+1 by omega];dsimp only at h ⊢;cases hs:step E st with
   |none=>rw[hs] at h;cases h
   |some q=>
    rw[hs] at h;cases q with
    |none=>exact h
    |some st'=>exact ih st' h d
end Lt
section
open Go.RowKit
theorem fO {w w':World} {B R:Nat} (h:Below B w w') (hR:B<=R) (a b c d:Value):Below B w (jY w' R a b c d):=
 (((h.setCell (p:=⟨R,0,none⟩) hR a).setCell (p:=⟨R,1,none⟩) hR b).setCell (p:=⟨R,2,none⟩) hR c).setCell (p:=⟨R,3,none⟩) hR d
end
section
open Go.RowKit
theorem gF {l:List Int} {i:Nat} (d:Int) (h:i<l.length):l[i]? =some (l.getD i d):=by
 rw[aag,aac h];rfl
theorem aH.lt {w:World} {B:Nat} {v:Value} {l:List Int} (h:aH w B v l) {b:Nat} (hb:v.ownBlock=some b):B<=b/\b<w.heap.size:=acj h b hb
section
variable {w:World}
theorem mh {g b i:Nat} (hne:g≠b) (x:Value):(w.setCell ⟨b,i,none⟩ x).heap[g]? =w.heap[g]? :=heap_setCell_other w ⟨b,i,none⟩ g x hne
theorem aH.bO {B b i:Nat} {v:Value} {l:List Int} (h:aH w B v l) (hf:v.ownBlock≠some b) (x:Value):aH (w.setCell ⟨b,i,none⟩ x) B v l:=
 h.same fun _ hg _=>mh (fun e=>hf (by rw[hg,e])) x
theorem af.bO {g b i:Nat} {l:List Int} (h:af w g l) (hf:g≠b) (x:Value):af (w.setCell ⟨b,i,none⟩ x) g l:=(mh hf x).trans h
end
noncomputable def leastOf (P:Nat->Prop):Nat:=open Classical in if h:∃k,P k/\∀j,P j->k<=j then Classical.choose h else 0
theorem SN {P:Nat->Prop} {k:Nat} (h:P k):∃k,P k/\∀j,P j->k<=j:=by
 induction k using Nat.strongRecOn with
 |_ k ih=>
  by_cases hk:∃j,j<k/\P j
  .obtain⟨j,hj,hp⟩:=hk
   exact ih j hj hp
  .refine⟨k,h,fun j hj=> ?_⟩
   rcases adn j k with h1|h1
   .exact absurd ⟨j,h1,hj⟩ hk
   .exact h1
theorem leastOf_spec {P:Nat->Prop} {k:Nat} (h:P k):P (leastOf P)/\leastOf P<=k:=by
 have hx:=SN h;unfold leastOf;rw[dif_pos hx];have:=acI hx;exact⟨this.1,this.2 k h⟩
theorem af.afB {w:World} {B g n:Nat} {l:List Int} (h:af w g l) (hB:B<=g) (hl:l.length=n) (hm:n<=8388608):aH w B (.slice (some ⟨g,0,none⟩) 0 n) []:=by
 subst hl;exact⟨by simp,.inr ⟨g,_,_,rfl,hB,h,by simp,by unfold maxLen;omega,by simp,by simp⟩⟩
theorem ah {w:World} {R:Nat} {t:TypeId} {a b c d:Value} (h:w.heap[R]? =some (.cells #[a,b,c,d] t (0,0))):w.cell? ⟨R,0,none⟩=some a/\w.cell? ⟨R,1,none⟩=some b/\w.cell? ⟨R,2,none⟩=some c/\w.cell? ⟨R,3,none⟩=some d/\∀i,w.frozen? ⟨R,i,none⟩=false:=by
 refine⟨?_,?_,?_,?_,fun i=> ?_⟩
 .simp[World.cell?,h]
 .simp[World.cell?,h]
 .simp[World.cell?,h]
 .simp[World.cell?,h]
 .simp[World.frozen?,h]
theorem Cs.SL {n:Nat} {es:List (Int×Int)} (hv:Si.Val n es) {h:Nat} (hh:h<2*es.length):Cs.fr es h≠Cs.to es h:=by
 obtain⟨p,hp⟩:∃p,es[h/2]? =some p:=⟨_,aac (by omega)⟩;have ho:=hv.each _ p hp;unfold Si.ok at ho;unfold Cs.fr Cs.to;rw[aag,hp];dsimp only[Option.getD_some]
 split<;>omega
theorem vq {W:World} {k M:Nat} (h:W.heap.size=k):af (W.alloc (.cells (madeCells #[.int .i64 0] M) 3)) k (List.replicate M 0):=by
 subst h;unfold af;rw[heap_alloc_new,<-dD]
theorem alloc_at {W:World} {k:Nat} {o:Obj} (h:W.heap.size=k):(W.alloc o).heap[k]? =some o:=by
 subst h;exact heap_alloc_new W o
end
section
open Go.Proofs.Tryz
open Go.RowKit Lt
abbrev fj (i:Iv):Value:= .agg #[.int .i64 i.1,.int .i64 i.2]
abbrev gK (p:Pr):Value:= .agg #[.int .i64 p.1.1,.int .i64 p.1.2,.int .i64 p.2.1,.int .i64 p.2.2]
theorem aia (a b c d:Int) (w:World):(Op.equalIn 10000 127 (.agg #[.int .i64 a,.int .i64 b]) (.agg #[.int .i64 c,.int .i64 d])).run prog w= .ok (a==c&&b==d) w:=by
 have u3:=Tryz.underlying3;have a3:=Tryz.isAgg3;have z3:=Tryz.sizeOf3;have hS:prog.underlying 127=some (.struct (prog.fieldsOf 127)):=by kernel_rfl
 rw[show(10000:Nat)=9999+1 from rfl,run_equalIn_agg w 9999 127 _ _ hS (by kernel_rfl)];simp only[Program.fieldsOf,Tryz.underlying127];go_simp;by_cases h1:a=c<;>by_cases h2:b=d<;>simp[h1,h2]
theorem WJ (a b c d a' b' c' d':Int) (w:World):(Op.equalIn 10000 129 (.agg #[.int .i64 a,.int .i64 b,.int .i64 c,.int .i64 d]) (.agg #[.int .i64 a',.int .i64 b',.int .i64 c',.int .i64 d'])).run prog w= .ok ((a==a'&&b==b')&&(c==c'&&d==d')) w:=by
 have u3:=Tryz.underlying3;have a3:=Tryz.isAgg3;have z3:=Tryz.sizeOf3;have a4:=Tryz.isAgg127;have z4:=Tryz.sizeOf127;have hS:prog.underlying 129=some (.struct (prog.fieldsOf 129)):=by kernel_rfl
 rw[show(10000:Nat)=9999+1 from rfl,run_equalIn_agg w 9999 129 _ _ hS (by kernel_rfl)];simp only[Program.fieldsOf,Tryz.underlying129];go_simp;by_cases h1:a=a'<;>by_cases h2:b=b'<;>by_cases h3:c=c'<;>by_cases h4:d=d'<;>simp[h1,h2,h3,h4]
theorem nM (w:World):Calls prog 95 #[] w fun e w'=>e= .returned (fj aP)/\Below w.heap.size w w':=by
 go_enter func95,ntmps95;go_wp2;have r:=aj (heap_alloc_new w (Obj.cells #[Value.int IntKind.i64 (-1),Value.int IntKind.i64 (-1)] 127));obtain⟨r0,r1,-⟩:=r;refine bodyPost_ret (v:=fj aP) (by simp[results,results95,go_sem,r0,r1]) rfl ?_;exact⟨rfl,(aae _ _).alloc (aad _) _⟩
theorem jy {w:World} {b:Nat} {t:TypeId} {x y z u:Value} (h:w.heap[b]? =some (.cells #[x,y,z,u] t (0,0))) (x' y' z' u':Value):((((w.setCell ⟨b,0,none⟩ x').setCell ⟨b,1,none⟩ y').setCell ⟨b,2,none⟩ z').setCell ⟨b,3,none⟩ u').heap[b]? =some (.cells #[x',y',z',u'] t (0,0)):=by
 have h1:=heap_setCell_same w b 0 _ _ x' h;have h2:=heap_setCell_same _ b 1 _ _ y' h1;have h3:=heap_setCell_same _ b 2 _ _ z' h2;have h4:=heap_setCell_same _ b 3 _ _ u' h3;simpa using h4
theorem qB (w:World):Calls prog 90 #[] w fun e w'=>e= .returned (gK dN)/\Below w.heap.size w w':=by
 obtain⟨W,hW⟩:∃W,W=w.alloc (.cells #[.int .i64 0,.int .i64 0,.int .i64 0,.int .i64 0] 129):=⟨_,rfl⟩;have hbl:W.heap[w.heap.size]? =some (.cells #[.int .i64 0,.int .i64 0,.int .i64 0,.int .i64 0] 129 (0,0)):=by rw[hW];exact heap_alloc_new w _
 have hb:Below w.heap.size w W:=by rw[hW];exact(aae _ _).alloc (aad _) _
 have vY:=ζ hbl;have HB:=ζ hb;have hacc:=aae W.heap.size W;have hlt:=lt_of_block hbl;have HW:=ζ hW;clear hW hbl hb;go_enter func90,ntmps90;go_wp2_with fail;rw[<-HW.out];go_wp2_with (go_at_call 95;refine(nM _).mono ?_;rintro e w1 ⟨rfl,hb1⟩;have hacc:=hacc.trans (hb1.mono hacc.size);obtain⟨q0,q1,q2,q3,qf⟩:=ah ((hacc.block _ hlt).trans vY.out);clear hb1);obtain⟨r0,r1,r2,r3,-⟩:=ah (jy ((hacc.block _ hlt).trans vY.out) (.int .i64 (-1)) (.int .i64 (-1)) (.int .i64 (-1)) (.int .i64 (-1)));refine bodyPost_ret (v:=gK dN) (by simp[results,results90,go_sem,r0,r1,r2,r3]) rfl ?_;exact⟨rfl,fO (HB.out.trans (hacc.mono HB.out.size)) (aad _) _ _ _ _⟩
theorem Ay (p:Pr) (w:World):Calls prog 128 #[gK p] w fun e w'=>e= .returned (gK (turned p))/\Below w.heap.size w w':=by
 obtain⟨⟨a,b⟩,c,d⟩:=p;go_enter func128,ntmps128;go_wp2;have hb1:Below w.heap.size w (w.alloc (Obj.cells #[Value.int IntKind.i64 a,Value.int IntKind.i64 b,Value.int IntKind.i64 c,Value.int IntKind.i64 d] 129)):=(aae _ _).alloc (aad _) _;obtain⟨r0,r1,r2,r3,-⟩:=ah (heap_alloc_new (w.alloc (Obj.cells #[Value.int IntKind.i64 a,Value.int IntKind.i64 b,Value.int IntKind.i64 c,Value.int IntKind.i64 d] 129)) (Obj.cells #[Value.int IntKind.i64 c,Value.int IntKind.i64 d,Value.int IntKind.i64 a,Value.int IntKind.i64 b] 129));rw[acC] at r0 r1 r2 r3;refine bodyPost_ret (v:=gK (turned ((a,b),c,d))) (by simp[results,results128,go_sem,r0,r1,r2,r3,turned]) rfl ?_;exact⟨rfl,hb1.alloc (by simp) _⟩
theorem eZ (i:Iv) (w:World):Calls prog 108 #[fj i] w fun e w'=>e= .returned (.bool (decide (i=aP)))/\Below w.heap.size w w':=by
 obtain⟨a,b⟩:=i;have eqI:=aia;obtain⟨W,hW⟩:∃W,W=w.alloc (.cells #[.int .i64 a,.int .i64 b] 127):=⟨_,rfl⟩;have hbl:W.heap[w.heap.size]? =some (.cells #[.int .i64 a,.int .i64 b] 127 (0,0)):=by rw[hW];exact heap_alloc_new w _
 have hb:Below w.heap.size w W:=by rw[hW];exact(aae _ _).alloc (aad _) _
 have hlt:=lt_of_block hbl;have y0:∀D:LW W,D.val.cell? ⟨w.heap.size,0,none⟩=some (.int .i64 a):=fun D=>(aj ((D.h.block _ hlt).trans hbl)).1
 have y1:∀D:LW W,D.val.cell? ⟨w.heap.size,1,none⟩=some (.int .i64 b):=fun D=>(aj ((D.h.block _ hlt).trans hbl)).2.1
 have bX:Hid (∀D:LW W,Below w.heap.size w D.val):=fun D=>hb.trans (D.h.mono hb.size)
 have HW:=ζ hW;have hne:=LW.any W;clear hW hbl hb hlt;go_enter func108,ntmps108;go_wp2_with fail;rw[<-HW.out];refine aG (by kernel_rfl) (by kernel_rfl) ?_
 repeat (go_big_quiet_step ((first|(go_at_call 95;exact Calls.lw (nM _)))))
 refine wpQuiet_nil ?_;rintro _ ⟨D,rfl⟩;clear y0 y1;go_wp2;go_ret;refine⟨?_,bX.out D⟩;by_cases h1:a= -1<;>by_cases h2:b= -1<;>simp[aP,h1,h2]
end
namespace Bu
def less (ks:List Int) (x:Int):Nat:=ks.countP (fun z=>decide (z<x))
def rk (ks:List Int) (i:Nat):Nat:=less ks (ks.getD i 0)+(ks.take i).count (ks.getD i 0)
def rE (ks:List Int):List Int:=(List.range ks.length).map fun i=>(rk ks i:Int)
def bad (most z:Int):Bool:=decide (z<0)||decide (most<z)
def fault (most:Int) (ks:List Int):Int:=if most<0\/4194304<most then 2 else if ks.any (bad most) then 60 else 0
theorem pW (ks:List Int):(rE ks).length=ks.length:=by simp[rE]
theorem FU {ks:List Int} {i:Nat} (h:i<ks.length):(rE ks)[i]? =some (rk ks i:Int):=by simp[rE,h]
theorem EG {ks:List Int} {i:Nat} {x:Int} (h:ks[i]? =some x):ks.getD i 0=x:=by simp[h]
theorem getD_at {ks:List Int} {i:Nat} (h:i<ks.length):ks[i]? =some (ks.getD i 0):=by simp[aac h]
theorem wq {ks:List Int} {i:Nat} {x:Int} (h:ks[i]? =some x):ks.take (i+1)=ks.take i++[x]:=by rw[ade,h];rfl
theorem jz {ks:List Int} {i:Nat} {x:Int} (h:ks[i]? =some x) (y:Int):(ks.take (i+1)).count y=(ks.take i).count y+(if x=y then 1 else 0):=by
 rw[wq h,afI];by_cases e:x=y
 .subst e;simp
 .simp[e]
theorem Dy (ks:List Int) (x:Int):less ks (x+1)=less ks x+ks.count x:=by
 induction ks with
 |nil=>rfl
 |cons a r ih=>
  unfold less at ih ⊢;simp only[List.countP_cons,List.count_cons,ih];by_cases h1:a<x
  .have h2:a<x+1:=by omega
   have h3:¬a=x:=by omega
   simp[h1,h2,h3];omega
  .by_cases h3:a=x
   .subst h3
    have h2:a<a+1:=by omega
    simp[h2];omega
   .have h2:¬a<x+1:=by omega
    simp[h1,h2,h3]
theorem NH (ks:List Int) {x y:Int} (h:x<=y):less ks x<=less ks y:=by
 unfold less;exact List.countP_mono_left fun z _ hz=>by simp at hz ⊢;omega
theorem Kv (ks:List Int) (x:Int):less ks x<=ks.length:=List.countP_le_length
theorem Ew (ks:List Int) {i j:Nat} (h:i<=j) (x:Int):(ks.take i).count x<=(ks.take j).count x:=by
 have e:ks.take i=(ks.take j).take i:=by rw[afQ];congr 1;omega
 rw[e];exact List.Sublist.count_le _ (List.take_sublist _ _)
theorem BR (ks:List Int) (i:Nat) (x:Int):(ks.take i).count x<=ks.count x:=List.Sublist.count_le _ (List.take_sublist _ _)
theorem Eu {ks:List Int} {i j:Nat} {x:Int} (h:ks[i]? =some x) (hj:i<j):(ks.take i).count x<(ks.take j).count x:=by
 have h1:=jz h x;have h2:=Ew ks (i:=i+1) (j:=j) (by omega) x;rw[if_pos rfl] at h1;omega
theorem xy {ks:List Int} {i:Nat} {x:Int} (h:ks[i]? =some x):(ks.take i).count x<ks.count x:=by
 have h1:=jz h x;have h2:=BR ks (i+1) x;rw[if_pos rfl] at h1;omega
theorem zF {ks:List Int} {i:Nat} {x:Int} (h:ks[i]? =some x):rk ks i=less ks x+(ks.take i).count x:=by unfold rk;rw[EG h]
def Ahead (ks:List Int) (i j:Nat):Prop:=ks.getD i 0<ks.getD j 0\/(ks.getD i 0=ks.getD j 0/\i<j)
theorem FR {ks:List Int} {i:Nat} {x:Int} (h:ks[i]? =some x):rk ks i<less ks (x+1):=by
 rw[zF h,Dy];have:=xy h;omega
theorem zG {ks:List Int} {i j:Nat} (hi:i<ks.length) (hj:j<ks.length) (h:Ahead ks i j):rk ks i<rk ks j:=by
 have ei:=getD_at hi;have ej:=getD_at hj;rcases h with h|⟨h,hlt⟩
 .have h1:=FR ei
  have h2:=NH ks (x:=ks.getD i 0+1) (y:=ks.getD j 0) (by omega);rw[zF ej];omega
 .rw[zF ei,zF ej,<-h]
  have:=Eu ei hlt;omega
theorem Hw {ks:List Int} {i:Nat} (hi:i<ks.length):rk ks i<ks.length:=by
 have h1:=FR (getD_at hi);have h2:=Kv ks (ks.getD i 0+1);omega
theorem GQ (ks:List Int) {i j:Nat} (h:i≠j):Ahead ks i j\/Ahead ks j i:=by
 unfold Ahead;omega
theorem PL {ks:List Int} {i j:Nat} (hi:i<ks.length) (hj:j<ks.length) (h:rk ks i=rk ks j):i=j:=by
 rcases Nat.decEq i j with e|e
 .rcases GQ ks e with a|a
  .have:=zG hi hj a;omega
  .have:=zG hj hi a;omega
 .exact e
theorem pig:∀(n:Nat) (f:Nat->Nat),(∀i,i<n->f i<n)->(∀i j,i<n->j<n->f i=f j->i=j)->∀k,k<n->∃i,i<n/\f i=k:=by
 intro n
 induction n with
 |zero=>intro f _ _ k hk;omega
 |succ n ih=>
  intro f hf hinj k hk;have hg:=ih (fun i:Nat=>if f i=n then f n else f i) (fun i hi=>by
   by_cases e:f i=n
   .rw[if_pos e]
    have h1:=hf n (by omega);have h2:f n≠n:=fun e2=>by
     have:=hinj i n (by omega) (by omega) (e.trans e2.symm);omega
    omega
   .rw[if_neg e]
    have:=hf i (by omega);omega) (fun i j hi hj he=>by
   by_cases e1:f i=n
   .by_cases e2:f j=n
    .exact hinj i j (by omega) (by omega) (e1.trans e2.symm)
    .rw[if_pos e1,if_neg e2] at he
     have:=hinj n j (by omega) (by omega) he;omega
   .by_cases e2:f j=n
    .rw[if_neg e1,if_pos e2] at he
     have:=hinj i n (by omega) (by omega) he;omega
    .rw[if_neg e1,if_neg e2] at he
     exact hinj i j (by omega) (by omega) he)
  have hn:=hf n (by omega);by_cases e:f n=k
  .exact⟨n,by omega,e⟩
  .by_cases e2:k=n
   .obtain⟨i,hi,h⟩:=hg (f n) (by omega)
    by_cases e3:f i=n
    .exact⟨i,by omega,by omega⟩
    .rw[if_neg e3] at h
     have:=hinj i n (by omega) (by omega) h;omega
   .obtain⟨i,hi,h⟩:=hg k (by omega)
    by_cases e3:f i=n
    .rw[if_pos e3] at h
     exact absurd h e
    .rw[if_neg e3] at h
     exact⟨i,by omega,h⟩
theorem C3 (ks:List Int) {k:Nat} (hk:k<ks.length):∃i,i<ks.length/\rk ks i=k:=
 pig ks.length (rk ks) (fun _ hi=>Hw hi) (fun _ _ hi hj h=>PL hi hj h) k hk
structure Sorted {α:Type} (ks:List Int) (xs S:List α):Prop where
 len:S.length=ks.length
 put:∀i,i<ks.length->S[rk ks i]? =xs[i]?
structure Laid {α:Type} (ks:List Int) (xs S:List α) (n:Nat):Prop where
 len:S.length=ks.length
 put:∀i,i<n->S[rk ks i]? =xs[i]?
theorem Laid.step {α:Type} {ks:List Int} {xs S:List α} {n:Nat} (h:Laid ks xs S n) (hn:n<ks.length) {x:α} (hx:xs[n]? =some x):Laid ks xs (S.set (rk ks n) x) (n+1):=by
 refine⟨by rw[acJ];exact h.len,fun i hi=> ?_⟩;have hr:=Hw hn;rw[ab0];by_cases e:i=n
 .subst e
  rw[if_pos rfl,if_pos (by rw[h.len];exact hr),hx]
 .rw[if_neg (fun e2=>e (PL (by omega) hn e2.symm)),h.put i (by omega)]
def adX (ks:List Int) (n:Nat) (k:Int):List Int:=((List.range n).filter fun i=>ks.getD i 0==k).map fun i:Nat=>(i:Int)
def grp (ks:List Int) (k:Int):List Int:=adX ks ks.length k
def In (m:Int) (ks:List Int):Prop:=∀z∈ks,0<=z/\z<=m
def groups (ks:List Int) (K:Nat):List (List Int):=(List.range K).map fun k:Nat=>grp ks (k:Int)
def flat (ks:List Int) (K:Nat):List Int:=(groups ks K).flatten
theorem NG {m:Int} {ks:List Int} (h:In m ks):less ks 0=0:=by
 unfold less;rw[List.countP_eq_zero];intro z hz;have:=h z hz;simp;omega
def places (n:Nat):List Int:=(List.range n).map fun i:Nat=>(i:Int)
theorem xu {most:Int} {ks:List Int} (h:most<0\/4194304<most):fault most ks=2:=if_pos h
theorem xw {most:Int} {ks:List Int} (h:¬(most<0\/4194304<most)) (h2:ks.any (bad most)=true):fault most ks=60:=by unfold fault;rw[if_neg h,if_pos h2]
theorem uj {most:Int} {ks:List Int} (h:¬(most<0\/4194304<most)) (h2:ks.any (bad most)=false):fault most ks=0:=by
 unfold fault;rw[if_neg h,h2];rfl
theorem I6 (most:Int) (ks:List Int):((most<0\/4194304<most)/\fault most ks=2)\/(¬(most<0\/4194304<most)/\ks.any (bad most)=true/\fault most ks=60)\/(¬(most<0\/4194304<most)/\ks.any (bad most)=false/\fault most ks=0):=by
 by_cases h:most<0\/4194304<most
 .exact .inl ⟨h,xu h⟩
 .cases h2:ks.any (bad most)
  .exact .inr (.inr ⟨h,rfl,uj h h2⟩)
  .exact .inr (.inl ⟨h,rfl,xw h h2⟩)
theorem ZH {most:Int} {ks:List Int} (h:ks.any (bad most)=false):In most ks:=fun z hz=>by
 have:=List.any_eq_false.1 h z hz;unfold bad at this;simp at this;omega
theorem EH {most:Int} {ks:List Int} {i:Nat} {x:Int} (h:ks[i]? =some x) (hp:(ks.take i).any (bad most)=false) (hx:bad most x=false):(ks.take (i+1)).any (bad most)=false:=by
 rw[wq h,List.any_append,hp];simp[hx]
theorem QU {most:Int} {ks:List Int} {i:Nat} {x:Int} (h:ks[i]? =some x) (hx:bad most x=true):ks.any (bad most)=true:=acR.2 ⟨x,aah h,hx⟩
theorem LX {most x:Int} (h:x<0\/most<x):bad most x=true:=by unfold bad;simp;omega
theorem QT {most x:Int} (h:¬(x<0\/most<x)):bad most x=false:=by unfold bad;simp;omega
end Bu
section
namespace Df
structure St where
 par:List Int
 ay:List Int
 ord:List Int
 aT:List Int
deriving DecidableEq
abbrev St.height (s:St) (v:Nat):Int:=s.ay.getD v (-1)
abbrev St.dir (s:St) (e:Nat):Int:=s.aT.getD e (-1)
abbrev St.left (s:St):Nat:=s.aT.count (-1)
def St.reach (s:St) (v:Nat) (h height:Int):St:=⟨s.par.set v h,s.ay.set v height,s.ord++[(v:Int)],s.aT⟩
def St.mark (s:St) (h:Nat):St:=⟨s.par,s.ay,s.ord,s.aT.set (h/2) (h:Int)⟩
def St.go (es:List (Int×Int)) (s:St) (h:Nat):St:=(s.mark h).reach (Cs.to es h) h (s.height (Cs.fr es h)+1)
inductive R (es:List (Int×Int)):Nat->St->List Nat->St->Prop
 |nil (s:St):R es 0 s [] s
 |old {k:Nat} {s s':St} {h:Nat} {L:List Nat} (hw:s.dir (h/2)≠-1) (hr:R es k s L s'):R es (k+1) s (h::L) s'
 |back {k:Nat} {s s':St} {h:Nat} {L:List Nat} (hw:s.dir (h/2)= -1) (hv:s.height (Cs.to es h)≠-1) (hr:R es k (s.mark h) L s'):R es (k+1) s (h::L) s'
 |tree {j k:Nat} {s s1 s':St} {h:Nat} {L:List Nat} (hw:s.dir (h/2)= -1) (hv:s.height (Cs.to es h)= -1) (h1:R es j (s.go es h) (Cs.out es (Cs.to es h) (2*es.length)) s1) (h2:R es k s1 L s'):R es (j+k+2) s (h::L) s'
structure Bd (n:Nat) (es:List (Int×Int)) (r:Nat) (s:St):Prop where
 lp:s.par.length=n
 lh:s.ay.length=n
 lo:s.aT.length=es.length
 ho:∀e,e<es.length->s.dir e= -1\/(s.dir e=2*(e:Int)\/s.dir e=2*(e:Int)+1)
 hh:∀v,v<n->-1<=s.height v/\s.height v+(s.left:Int)<=es.length
 hr:s.ord.length+s.left<=es.length+r
 hp:∀v,v<n->-1<=s.par.getD v 0/\s.par.getD v 0<2*(es.length:Int)
 hu:∀v,v<n->s.height v= -1->s.par.getD v 0= -1
 hd:∀x∈s.ord,0<=x/\x<(n:Int)
section
variable {n r:Nat} {es:List (Int×Int)} {s s':St} {h v:Nat}
theorem Bd.few (b:Bd n es r s):s.left<=es.length:=by
 have:=afm (a:=(-1:Int)) (l:=s.aT);rw[b.lo] at this;exact this
theorem lY (b:Bd n es r s) (hh:h<2*es.length) (hw:s.dir (h/2)= -1):(s.mark h).left+1=s.left:=by
 have hl:h/2<s.aT.length:=by rw[b.lo];omega
 have e:s.aT[h/2]= -1:=by
  have:=hw;unfold St.dir at this;rw[aag,aac hl] at this;exact this
 have hpos:0<s.aT.count (-1):=adp.2 (by rw[<-e];exact adi hl);unfold St.left St.mark;dsimp only;rw[ae0 hl,e,if_pos (by decide),if_neg (by simp)];omega
theorem j8 (b:Bd n es r s) (hh:h<2*es.length) (e:Nat):(s.mark h).dir e=if e=h/2 then (h:Int) else s.dir e:=by
 have hl:h/2<s.aT.length:=by rw[b.lo];omega
 unfold St.dir St.mark;dsimp only;rw[aag,ab0];by_cases e1:h/2=e
 .rw[if_pos e1,if_pos hl,if_pos e1.symm];rfl
 .rw[if_neg e1,if_neg (fun e2=>e1 e2.symm),aag]
theorem Bd.mark (b:Bd n es r s) (hl:h<2*es.length) (hw:s.dir (h/2)= -1):Bd n es r (s.mark h):=by
 have hm:=lY b hl hw;refine⟨b.lp,b.lh,by simp[St.mark,b.lo],fun e he=> ?_,fun v hv=> ?_,?_,b.hp,b.hu,b.hd⟩
 .rw[j8 b hl]
  by_cases e1:e=h/2
  .rw[if_pos e1];omega
  .rw[if_neg e1];exact b.ho e he
 .have:=b.hh v hv
  exact⟨this.1,by show s.height v+((s.mark h).left:Int)<=_;omega⟩
 .have:=b.hr
  show s.ord.length+(s.mark h).left<=_;omega
theorem ey (b:Bd n es r s) (hv:v<n) (x y:Int) (u:Nat):(s.reach v x y).height u=if u=v then y else s.height u:=by
 have hl:v<s.ay.length:=by rw[b.lh];omega
 unfold St.height St.reach;dsimp only;rw[aag,ab0];by_cases e1:v=u
 .rw[if_pos e1,if_pos hl,if_pos e1.symm];rfl
 .rw[if_neg e1,if_neg (fun e2=>e1 e2.symm),aag]
theorem Dg (b:Bd n es r s) (hv:v<n) (x y:Int) (u:Nat):(s.reach v x y).par.getD u 0=if u=v then x else s.par.getD u 0:=by
 have hl:v<s.par.length:=by rw[b.lp];omega
 unfold St.reach;dsimp only;rw[aag,ab0];by_cases e1:v=u
 .rw[if_pos e1,if_pos hl,if_pos e1.symm];rfl
 .rw[if_neg e1,if_neg (fun e2=>e1 e2.symm),aag]
theorem Bd.reach {r':Nat} (b:Bd n es r s) (hv:v<n) {x y:Int} (hx: -1<=x/\x<2*(es.length:Int)) (hy:0<=y) (hy2:y+(s.left:Int)<=es.length) (hr:s.ord.length+1+s.left<=es.length+r'):Bd n es r' (s.reach v x y):=by
 refine⟨by simp[St.reach,b.lp],by simp[St.reach,b.lh],b.lo,b.ho,fun u hu=> ?_,?_,fun u hu=> ?_,fun u hu hn=> ?_,fun z hz=> ?_⟩
 .rw[ey b hv]
  show _/\_+(s.left:Int)<=_;by_cases e:u=v
  .rw[if_pos e];omega
  .rw[if_neg e];exact b.hh u hu
 .show(s.ord++[(v:Int)]).length+s.left<=_
  rw[abZ,adb];exact hr
 .rw[Dg b hv]
  by_cases e:u=v
  .rw[if_pos e];exact hx
  .rw[if_neg e];exact b.hp u hu
 .rw[ey b hv] at hn
  by_cases e:u=v
  .rw[if_pos e] at hn;omega
  .rw[if_neg e] at hn
   rw[Dg b hv,if_neg e];exact b.hu u hu hn
 .have hz':z∈s.ord++[(v:Int)]:=hz
  rcases aam.1 hz' with h|h
  .exact b.hd z h
  .rw[aan] at h
   subst h;omega
theorem Bd.root (b:Bd n es r s) (hv:v<n):Bd n es (r+1) (s.reach v (-1) 0):=by
 have:=b.few;have:=b.hr;exact b.reach hv (by omega) (by omega) (by omega) (by omega)
theorem Bd.go (b:Bd n es r s) (hval:Si.Val n es) (hl:h<2*es.length) (hw:s.dir (h/2)= -1):Bd n es r (s.go es h):=by
 have hm:=lY b hl hw;have hb:=b.mark hl hw;obtain⟨hf,ht⟩:=Cs.bI hval hl;have h1:=b.hh _ hf;have h2:=b.hr;have e:(s.mark h).ord=s.ord:=rfl;unfold St.go;exact hb.reach ht (by omega) (by omega) (by omega) (by rw[e];omega)
theorem nK {v k:Nat}:∀x∈Cs.out es v k,x<k:=fun x hx=>by
 obtain⟨j,hj⟩:=ac5 hx;exact(Cs.kK hj).1
theorem R.bd {k:Nat} {L:List Nat} (hval:Si.Val n es) (h:R es k s L s'):(∀x∈L,x<2*es.length)->Bd n es r s->Bd n es r s':=by
 induction h with
 |nil s=>exact fun _ b=>b
 |old hw hr ih=>exact fun hl b=>ih (fun x hx=>hl x (aak _ hx)) b
 |back hw hv hr ih=>exact fun hl b=>ih (fun x hx=>hl x (aak _ hx)) (b.mark (hl _ aai) hw)
 |tree hw hv h1 h2 ih1 ih2=>exact fun hl b=>ih2 (fun x hx=>hl x (aak _ hx)) (ih1 nK (b.go hval (hl _ aai) hw))
theorem total (hval:Si.Val n es):∀(u:Nat) (L:List Nat) (s:St),s.left<=u->Bd n es r s->(∀x∈L,x<2*es.length)->∃k s',R es k s L s'/\s'.left<=s.left:=by
 intro u
 induction u with
 |zero=>
  intro L
  induction L with
  |nil=>exact fun s _ _ _=>⟨0,s,.nil s,aad _⟩
  |cons h L ih=>
   intro s hu b hl;by_cases hw:s.dir (h/2)= -1
   .have:=lY b (hl h aai) hw
    omega
   .obtain⟨k,s',h1,h2⟩:=ih s hu b (fun x hx=>hl x (aak _ hx))
    exact⟨k+1,s',.old hw h1,h2⟩
 |succ u ihu=>
  intro L
  induction L with
  |nil=>exact fun s _ _ _=>⟨0,s,.nil s,aad _⟩
  |cons h L ih=>
   intro s hu b hl;have hh:=hl h aai;have hL:∀x∈L,x<2*es.length:=fun x hx=>hl x (aak _ hx)
   by_cases hw:s.dir (h/2)= -1
   .have hm:=lY b hh hw
    by_cases hv:s.height (Cs.to es h)= -1
    .have hle:(s.go es h).left=(s.mark h).left:=rfl
     obtain⟨j,s1,h1,h2⟩:=ihu (Cs.out es (Cs.to es h) (2*es.length)) (s.go es h) (by omega) (b.go hval hh hw) nK;obtain⟨k,s',h3,h4⟩:=ihu L s1 (by omega) (h1.bd hval nK (b.go hval hh hw)) hL;exact⟨_,s',.tree hw hv h1 h3,by omega⟩
    .obtain⟨k,s',h1,h2⟩:=ihu L (s.mark h) (by omega) (b.mark hh hw) hL
     exact⟨_,s',.back hw hv h1,by omega⟩
   .obtain⟨k,s',h1,h2⟩:=ih s hu b hL
    exact⟨k+1,s',.old hw h1,h2⟩
end
def St.start (n m:Nat):St:=⟨List.replicate n (-1),List.replicate n (-1),[],List.replicate m (-1)⟩
theorem Ro (n:Nat) (es:List (Int×Int)):Bd n es 0 (St.start n es.length):=by
 have hc:(St.start n es.length).left=es.length:=by unfold St.left St.start;simp
 have hg:∀(m v:Nat),(List.replicate m (-1:Int)).getD v (-1)= -1:=fun m v=>by
  rw[aag,acQ]
  split<;>rfl
 refine⟨by simp[St.start],by simp[St.start],by simp[St.start],fun e _=> .inl (hg _ e),fun v _=> ?_,?_,fun v hv=> ?_,fun v hv _=> ?_,fun x hx=> ?_⟩
 .have:(St.start n es.length).height v= -1:=hg n v
  rw[this,hc];omega
 .rw[hc];simp[St.start]
 .have:(St.start n es.length).par.getD v 0= -1:=by simp[St.start,hv]
  rw[this];omega
 .simp[St.start,hv]
 .simp[St.start] at hx
inductive Wk (n:Nat) (es:List (Int×Int)):Nat->St->Prop
 |zero:Wk n es 0 (St.start n es.length)
 |pass {i:Nat} {s:St} (h:Wk n es i s) (hv:s.height i≠-1):Wk n es (i+1) s
 |walk {i k:Nat} {s s':St} (h:Wk n es i s) (hv:s.height i= -1) (hr:R es k (s.reach i (-1) 0) (Cs.out es i (2*es.length)) s'):Wk n es (i+1) s'
theorem Wk.bd {n:Nat} {es:List (Int×Int)} (hval:Si.Val n es) {i:Nat} {s:St} (h:Wk n es i s):i<=n->Bd n es i s:=by
 induction h with
 |zero=>exact fun _=>Ro n es
 |pass h hv ih=>
  intro hi;have b:=ih (by omega);exact⟨b.lp,b.lh,b.lo,b.ho,b.hh,by have:=b.hr;omega,b.hp,b.hu,b.hd⟩
 |walk h hv hr ih=>exact fun hi=>hr.bd hval nK ((ih (by omega)).root (by omega))
end Df
end
end Go.Proofs.YtbhdibflpjhpaaaGreat
