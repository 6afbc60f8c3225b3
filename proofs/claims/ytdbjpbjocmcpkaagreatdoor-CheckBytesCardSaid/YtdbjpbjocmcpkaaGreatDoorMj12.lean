import Derived.Test.YtdbjpbjocmcpkaaGreatDoorMj11
set_option maxHeartbeats 8000000
set_option maxRecDepth 100000
namespace Go.Proofs.YtdbjpbjocmcpkaaGreatDoor
section
open Go.Proofs.Tryz
open Go.RowKit Go.Sort
def Xs (n:Int) (es:List (Int×Int)) (ls:List (List Int)) (b:Nat) (w:World) (e:Ending) (w':World):Prop:=
 av (fun k=>k=b) w w'/\(((Ro.check n es (Ro.hls es 0 ls)).2=0/\e= .returned (.tuple #[])/\∃r rs,w'.heap[b]? =some (.cells #[r] 50 (0,0))/\ay w' w.heap.size r rs (Ro.hls es 0 ls))\/
  ((Ro.check n es (Ro.hls es 0 ls)).2≠0/\e= .panicked [{ v:=eH (Ro.check n es (Ro.hls es 0 ls)).1 (Ro.check n es (Ro.hls es 0 ls)).2,recovered:=false }]/\w'.heap[b]? =some (.cells #[.slice none 0 0] 50 (0,0))))
theorem O5 (n:Int) (ao:Option Addr) (ca:Nat) (es:List (Int×Int)) (xo:Option Addr) (xc:Nat) (ls:List (List Int)) (b:Nat) (w:World) (he:ah w ao es) (hl:es.length<=4611686018427387904) (hx:bH w xo ls)
 (hg:w.heap[b]? =some (.cells #[.int .i64 n,.slice ao es.length ca] 24 (0,0))) (hr:w.heap[b+1]? =some (.cells #[.slice xo ls.length xc] 25 (0,0))) (b7:w.heap[b+2]? =some (.cells #[.slice none 0 0] 50 (0,0))):
 Calls prog 138 #[.pointer (some ⟨b,0,none⟩),.pointer (some ⟨b+1,0,none⟩),.pointer (some ⟨b+2,0,none⟩)] w (Xs n es ls (b+2) w):=by
 obtain⟨g0,g1,-⟩:=af hg;have r0:=cell_of_one hr;have HH:=ζ (xq n ao ca es xo xc ls w he hl hx);have jX:=ζ b7;unfold aB at HH;clear he hx hg hr b7;go_enter func138,ntmps138;go_wp2_with (go_at_call 139;refine HH.out.mono ?_;refine aaI ?_);refine ζ ?_;rintro e w1 ⟨hb,hp⟩;have hB1:=(hb.block _ (lt_of_block jX.out)).trans jX.out;rcases hp with ⟨hc,r,rs,rfl,jT⟩|⟨hc,rfl⟩
 .obtain⟨ro,rc,rfl⟩:=bG jT
  have k0:=cell_of_one hB1;have f0:=free_of_one hB1;have HB:=ζ hb;have HC:=ζ hc;have nL:=ζ jT;have aD:=ζ hB1;have nN:=ζ (lt_of_block jX.out);generalize hq:(Ro.hls es 0 ls).length=ql at*;clear hb hc jT hB1;go_wp2
  go_end0
  refine⟨((av.refl (fun k=>k=b+2) w).later HB.out).setCell (b:=b+2) rfl _,.inl ⟨HC.out,rfl,_,rs,one_setCell aD.out,?_⟩⟩;refine nL.out.kept fun g hg hg2=>fJ ?_ _
  have h1:=nN.out;rcases hg with hg|⟨u,x,hx,hxb⟩
  .have:=(aaO nL.out.outer g hg).1
   omega
  .obtain⟨k,hk⟩:=nL.out.at hx
   have:=(aaO (nL.out.row u x k hx hk) g hxb).1;omega
 .exact⟨rfl,(av.refl _ _).later hb,.inr ⟨hc,rfl,hB1⟩⟩
theorem Mn:∀(args:Array Value) (w:World),(callFunc 138 args).run prog w= .ok (.enter 138 args) w:=enters_of func138 (by kernel_rfl) rfl
theorem Ml (n:Int) (ao:Option Addr) (ca:Nat) (es:List (Int×Int)) (xo:Option Addr) (xc:Nat) (ls:List (List Int)) (w:World) (he:ah w ao es) (hl:es.length<=4611686018427387904) (hx:bH w xo ls):
 Calls prog 94 #[aB n ao es.length ca,.slice xo ls.length xc] w (lW n es ls w):=by
 have Yg:∀(fn:Fn) (first cap:Array Value) (w:World),(Instr.makeFunc fn first cap).run prog w= .ok (.func fn first cap) w:=fun _ _ _ _=>rfl
 obtain⟨W0,hW0⟩:∃W,W=((w.alloc (.cells #[.int .i64 n,.slice ao es.length ca] 24)).alloc (.cells #[.slice xo ls.length xc] 25)).alloc (.cells #[.slice none 0 0] 50):=⟨_,rfl⟩;have hb0:Below w.heap.size w W0:=by rw[hW0];exact(((aaG _ _).alloc (aaF _) _).alloc (by simp) _).alloc (by simp;omega) _
 have hs0:W0.heap.size=w.heap.size+3:=by rw[hW0];simp
 have hg:W0.heap[w.heap.size]? =some (.cells #[.int .i64 n,.slice ao es.length ca] 24 (0,0)):=by
  rw[hW0,aa0 _ _ _ (by simp;omega),aa0 _ _ _ (by simp)];exact heap_alloc_new w _
 have hr:W0.heap[w.heap.size+1]? =some (.cells #[.slice xo ls.length xc] 25 (0,0)):=by
  rw[hW0,aa0 _ _ _ (by simp)];exact alloc_at (by simp)
 have b7:W0.heap[w.heap.size+2]? =some (.cells #[.slice none 0 0] 50 (0,0)):=by
  rw[hW0];exact alloc_at (by simp)
 obtain⟨Wc,VC⟩:∃Wc,Wc=W0.alloc (.cells #[.int .i64 0,.int .i64 0] 233):=⟨_,rfl⟩;have hb1:Below W0.heap.size W0 Wc:=by rw[VC];exact(aaG _ _).alloc (aaF _) _
 have hsc:Wc.heap.size=w.heap.size+4:=by rw[VC];simp[hs0]
 have ZH:o9 Wc W0.heap.size 0 0:=by rw[VC];exact heap_alloc_new W0 _
 have hc1:=O5 n ao ca es xo xc ls w.heap.size Wc ((he.later hb0).later hb1) hl ((hx.later hb0).later hb1) ((hb1.block _ (by omega)).trans hg) ((hb1.block _ (by omega)).trans hr) ((hb1.block _ (by omega)).trans b7)
 have hca:=Bh 138 #[.pointer (some ⟨w.heap.size,0,none⟩),.pointer (some ⟨w.heap.size+1,0,none⟩),.pointer (some ⟨w.heap.size+2,0,none⟩)]
  (fun W=>(Ro.check n es (Ro.hls es 0 ls)).2=0/\Below w.heap.size w W/\w.heap.size+3<W.heap.size/\∃r rs,W.heap[w.heap.size+2]? =some (.cells #[r] 50 (0,0))/\ay W (w.heap.size+4) r rs (Ro.hls es 0 ls))
  (fun v c W=>v=(Ro.check n es (Ro.hls es 0 ls)).1/\c=(Ro.check n es (Ro.hls es 0 ls)).2/\c≠0/\Below w.heap.size w W/\w.heap.size+3<W.heap.size/\W.heap[w.heap.size+2]? =some (.cells #[.slice none 0 0] 50 (0,0))) W0 Mn
  (by
    rw[<-VC];refine hc1.mono ?_;rintro e w2 ⟨hw2,hp⟩;have dA:Below w.heap.size w w2:=by
     have h1:=hb0.trans (hb1.mono hb0.size);exact h1.trans (hw2.below h1.size fun k hk=>by rw[hk];omega)
    have hsz:w.heap.size+3<w2.heap.size:=by have:=hw2.size;omega
    refine⟨(hw2.block W0.heap.size (by omega) (by show ¬W0.heap.size=w.heap.size+2;omega)).trans ZH,?_⟩;rcases hp with ⟨h0,rfl,r,rs,h1,h2⟩|⟨h0,rfl,h1⟩
    .rw[hsc] at h2
     exact .inl ⟨rfl,h0,dA,hsz,r,rs,h1,h2⟩
    .exact .inr ⟨_,_,rfl,rfl,rfl,h0,dA,hsz,h1⟩)
 have yX:=ζ hca;have FZ:=ζ hs0;unfold aB;clear he hx hg hr b7 hb1 hc1 hca hb0 hs0 VC hsc ZH;rw[hW0] at yX;have HW:=ζ hW0;clear hW0;go_enter func94,ntmps94;go_wp2_with (go_at_call 132;refine yX.out.mono ?_;refine aaI ?_);refine ζ ?_;rintro e w1 ⟨W1,hp,hw⟩;have SI:=HW.out;rw[<-SI] at hw;rw[FZ.out] at hw;rcases hp with ⟨⟨h0,hb,hsz,r,rs,h1,h2⟩,rfl⟩|⟨v,c,⟨hv,hc,h0,hb,hsz,h1⟩,rfl⟩
 .have hb2:Below w.heap.size w w1:=hb.trans (hw.below hb.size fun k hk=>by rw[hk];omega)
  have ou:=(hw.block (w.heap.size+2) (by omega) (by show ¬w.heap.size+2=w.heap.size+3;omega)).trans h1;have lp:ay w1 (w.heap.size+4) r rs (Ro.hls es 0 ls):=h2.kept fun g hg hg2=>hw.block g hg2 (by
   show ¬g=w.heap.size+3;rcases hg with hg|⟨u,x,hx,hxb⟩
   .have:=(aaO h2.outer g hg).1
    omega
   .obtain⟨k,hk⟩:=h2.at hx
    have:=(aaO (h2.row u x k hx hk) g hxb).1;omega)
  obtain⟨ro,rc,rfl⟩:=bG lp;have k0:=cell_of_one ou;have nL:=ζ lp;have aA:=ζ hb2;have H0:=ζ h0;generalize hq:(Ro.hls es 0 ls).length=ql at*;have Zy:=lt_of_block ou;clear hw hb hsz h1 h2 h0 hb2 ou lp SI hq;go_wp2
  go_region
  go_wp2
  go_ret3
  refine⟨(aA.out.alloc aA.out.size _).drew,.inr ⟨H0.out,_,rs,rfl,?_⟩⟩;exact((nL.out.later ((aaG _ _).alloc (aaF _) _)).later (aaG _ _).drew).lower (by omega)
 .have hb2:Below w.heap.size w w1:=hb.trans (hw.below hb.size fun k hk=>by rw[hk];omega)
  have ou:=(hw.block (w.heap.size+2) (by omega) (by show ¬w.heap.size+2=w.heap.size+3;omega)).trans h1;have k0:=cell_of_one ou;have aA:=ζ hb2;have H0:=ζ h0;have HV:=ζ hv;have HC:=ζ hc;have Zy:=lt_of_block ou;clear hw hb hsz h1 h0 hb2 ou SI hv hc;go_wp2
  go_region
  go_wp2
  go_ret3
  have hv:=HV.out;have hc:=HC.out;subst hv;refine⟨(aA.out.alloc aA.out.size _).drew,.inl ⟨by rw[<-hc];exact H0.out,?_⟩⟩;rw[<-hc];rfl
end
section
open Go.RowKit
theorem Cc (a b c d:Int) (w:World):(Op.equalIn 10000 66 (.agg #[.int .i64 a,.int .i64 b]) (.agg #[.int .i64 c,.int .i64 d])).run Tryz.prog w= .ok (a==c&&b==d) w:=by
 have u3:=Tryz.underlying3;have a3:=Tryz.isAgg3;have z3:=Tryz.sizeOf3;have hS:Tryz.prog.underlying 66=some (.struct (Tryz.prog.fieldsOf 66)):=by kernel_rfl
 rw[show(10000:Nat)=9999+1 from rfl,run_equalIn_agg w 9999 66 _ _ hS (by kernel_rfl)];simp only[Program.fieldsOf,Tryz.underlying66];go_simp;by_cases h1:a=c<;>by_cases h2:b=d<;>simp[h1,h2]
end
section
open Go.RowKit Go.Sort
theorem E7 {ops:Array Oper} {rest:List Oper} {o:Oper} {a:Act} {Q:Exit->Act->World->Prop} (hgd:o.guard=none) (s x:Operand)
 (ho:o.op= .call { callee:= .builtin .append,args:= #[s,x],argTypes:= #[22,22] }) (W:World) (B:Nat) (v:Value) (l:List (Int×Int)) (y z:Int) (hown:aW W B v l)
 (hB:B<=W.heap.size) (hl:l.length<=8796093022000) (hs:a.eval s=v) (hx:a.eval x= .slice (some ⟨W.heap.size,0,none⟩) 1 1)
 (h:∀v' w',aW w' B v' (l++[(y,z)])->Below B W w'->wpList Tryz.prog ops Q rest (a.put o.dst v') w'):
 wpList Tryz.prog ops Q (o::rest) a (W.alloc (.cells #[.int .i64 y,.int .i64 z] 66)):=by
 obtain⟨i0,hi,hz0,hz1,hz2⟩:=info_parts Tryz.zP;have hb0:Below B W (W.alloc (.cells #[.int .i64 y,.int .i64 z] 66)):=(aaG _ _).alloc hB _;refine wpList_append_own _ hgd s x 22 ho B 66 i0 (.agg #[.int .i64 0,.int .i64 0]) 2 16 Tryz.underlying22 hi hz0 hz1 hz2 rfl (by decide) _ _ _ hs (abv hown _) ⟨W.heap.size,0,none⟩ 1 1 [.int .i64 y,.int .i64 z] hx rfl (qx _ _ rfl _ _ _) (by simp[Value.oneCell']) (by unfold maxLen;omega) (by omega) (by simp;omega) ?_;intro v' w' hown' hg _;have ho':aW w' B v' (l++[(y,z)]):=by
  unfold aW;rw[oz,aaZ];exact hown'
 exact h v' w' ho' (hb0.grown hg (by simp;omega) (fun b hb=>(aaO hown b hb).1))
end
section
namespace Ed
open Si
abbrev E:=Int×Int
abbrev Ans:=Int×List E×Int
def nth (ns:List Int) (v:Int):Int:=ns.getD v.toNat (-1)
def okq (q:E):Bool:=decide (0<=q.1)&&decide (0<=q.2)
def pr (ns:List Int) (es:List E):List E:=(es.map fun p=>(nth ns p.1,nth ns p.2)).filter okq
def named (ns:List Int) (es:List E):List E:=made [] (pr ns es)
def Fits (ns:List Int) (es:List E):Prop:=∀p∈es,0<=p.1/\p.1<p.2/\p.2<(ns.length:Int)
theorem kQ {n:Int} {es:List E} (h0:0<=n) (h1:n<=1048576) (h2:es.length<=4194304) (h3:∀p∈es,ok n p) (h4:es.Pairwise lt):Val n es:=by
 refine⟨h0,h1,h2,fun j p hj=>h3 p (aaJ hj),fun j p q hp hq=> ?_⟩;rw[abr] at h4;obtain⟨hi,ei⟩:=aaH.1 hp;obtain⟨hj,ej⟩:=aaH.1 hq;have:=h4 j (j+1) hi hj (by omega);rw[ei,ej] at this;exact this
def Ud (n:Nat) (l:List Int):Nat->List Int
 |0=>List.replicate n (-1)
 |k+1=>(Ud n l k).set (l.getD k 0).toNat (k:Int)
def pl (n:Nat) (l:List Int):List Int:=Ud n l l.length
theorem KE (n:Nat) (l:List Int):∀k,(Ud n l k).length=n
 |0=>by simp[Ud]
 |k+1=>by simp[Ud,KE n l k]
def Fo (m:Nat) (keep:List Int):Nat->List Bool
 |0=>List.replicate m false
 |k+1=>(Fo m keep k).set (keep.getD k 0).toNat true
def mk (m:Nat) (keep:List Int):List Bool:=Fo m keep keep.length
theorem kZ (m:Nat) (l:List Int):∀k,(Fo m l k).length=m
 |0=>by simp[Fo]
 |k+1=>by simp[Fo,kZ m l k]
def sel:List Bool->List E->List E
 |true::b,e::es=>e::sel b es
 |false::b,_::es=>sel b es
 |_,_=>[]
theorem Gt:∀(b:List Bool) (es:List E) (k:Nat) (p:E) (x:Bool),es[k]? =some p->b[k]? =some x->sel b (es.take (k+1))=sel b (es.take k)++(if x=true then [p] else [])
 |[],_,_,_,_,_,h=>by simp at h
 |_::_,[],_,_,_,h,_=>by simp at h
 |c::b,e::es,0,p,x,h1,h2=>by
  simp at h1 h2;subst h1;subst h2;cases c<;>simp[sel]
 |c::b,e::es,k+1,p,x,h1,h2=>by
  have ih:=Gt b es k p x (by simpa using h1) (by simpa using h2);simp only[List.take_succ_cons];cases c
  .simp only[sel]
   simpa using ih
  .simp only[sel,abp]
   congr 1
theorem CN:∀(b:List Bool) (es:List E),(sel b es).Sublist es
 |[],es=>by simp[sel]
 |_::_,[]=>by simp[sel]
 |true::b,e::es=>by simp only[sel];exact(CN b es).cons_cons e
 |false::b,e::es=>by simp only[sel];exact(CN b es).cons e
open Classical in
noncomputable def sub (n:Int) (es:List E) (keep:List Int):Ans:=
 if valid n es=false then (0,[],1) else if ¬ ∀x∈keep,0<=x/\x<(es.length:Int) then (0,[],2) else (n,sel (mk es.length keep) es,0)
def has (es:List E) (v:Int):Bool:=es.any fun p=>p.1==v||p.2==v
def bl (es:List E):Nat->List Int
 |0=>[]
 |k+1=>bl es k++(if has es k=true then [(k:Int)] else [])
noncomputable def bare (n:Int) (es:List E):Ans:=
 if valid n es=false then (0,[],1) else ((bl es n.toNat).length,named (pl n.toNat (bl es n.toNat)) es,0)
end Ed
end
section
open Go.Proofs.Tryz
open Go.RowKit Go.Sort
def ahA (r:Ed.Ans) (w:World) (e:Ending) (w':World):Prop:=
 ∃v,e= .returned (.tuple #[.agg #[.int .i64 r.1,v],.int .i64 r.2.2])/\aW w' w.heap.size v r.2.1/\Below w.heap.size w w'
theorem Kt (c:Int) (w:World):Calls prog 141 #[.int .i64 c] w fun e w'=>e= .returned (.tuple #[.agg #[.int .i64 0,.slice none 0 0],.int .i64 c])/\Below w.heap.size w w':=by
 go_enter func141,ntmps141;go_wp2;refine bodyPost_ret (v:= .tuple #[.agg #[.int .i64 0,.slice none 0 0],.int .i64 c]) (by simp[results,results141,go_sem]) rfl ?_;exact⟨rfl,by first|exact(((aaG _ _).alloc (aaF _) _).setCell (by simp) _).setCell (by simp) _|exact(aaG _ _).alloc (aaF _) _⟩
theorem Ox {x c:Int} (h0:0<=x) (h1:x<c) (w:World):Calls prog 142 #[.int .i64 x,.int .i64 c] w fun e w'=>e= .returned (.bool true)/\w'=w:=by
 go_enter func142,ntmps142;go_wp2;go_ret;exact⟨rfl,rfl⟩
theorem Sh {x c:Int} (h:x<0\/c<=x) (w:World):Calls prog 142 #[.int .i64 x,.int .i64 c] w fun e w'=>e= .returned (.bool false)/\w'=w:=by
 by_cases h0:0<=x
 .have h1:¬x<c:=by omega
  clear h;go_enter func142,ntmps142;go_wp2;go_ret;exact⟨rfl,rfl⟩
 .clear h
  go_enter func142,ntmps142;go_wp2;go_ret;exact⟨rfl,rfl⟩
end
namespace Ck
abbrev E:=Int×Int
def bB:List E->List E->Nat->List Nat
 |[],_,_=>[]
 |_::_,[],_=>[]
 |x::xs,e::es,i=>if x=e then i::bB xs es (i+1) else bB (x::xs) es (i+1)
theorem tY (es:List E) (i:Nat):bB [] es i=[]:=by cases es<;>simp[bB]
theorem xJ:∀(es xs:List E) (i k:Nat),k∈bB xs es i->i<=k/\k<i+es.length
 |[],xs,i,k,h=>by cases xs<;>simp[bB] at h
 |e::es,[],i,k,h=>by simp[bB] at h
 |e::es,x::xs,i,k,h=>by
  unfold bB at h
  split at h
  .rcases aa4.1 h with h|h
   .subst h;simp
   .have:=xJ es xs (i+1) k h
    simp;omega
  .have:=xJ es (x::xs) (i+1) k h
   simp;omega
theorem zD:∀(es xs:List E) (i:Nat),(bB xs es i).length<=xs.length/\(bB xs es i).length<=es.length
 |[],xs,i=>by cases xs<;>simp[bB]
 |e::es,[],i=>by simp[bB]
 |e::es,x::xs,i=>by
  unfold bB
  split
  .have:=zD es xs (i+1)
   simp;omega
  .have:=zD es (x::xs) (i+1)
   simp at this ⊢;omega
theorem pJ:∀(es xs:List E) (i:Nat),(bB xs es i).length=xs.length->xs.Sublist es
 |[],[],i,_=>by simp
 |[],x::xs,i,h=>by simp[bB] at h
 |e::es,[],i,h=>by simp
 |e::es,x::xs,i,h=>by
  unfold bB at h
  split at h
  .rename_i hx
   subst hx;exact(pJ es xs (i+1) (by simpa using h)).cons_cons _
  .exact(pJ es (x::xs) (i+1) h).cons _
theorem Qk (a:E):¬Si.lt a a:=by unfold Si.lt;omega
theorem lt_trans {a b c:E} (h:Si.lt a b) (h':Si.lt b c):Si.lt a c:=by unfold Si.lt at *;omega
theorem zG:∀(es xs:List E) (i:Nat),es.Pairwise Si.lt->xs.Pairwise Si.lt->(∀x∈xs,x∈es)->(bB xs es i).length=xs.length
 |[],[],i,_,_,_=>by simp[bB]
 |[],x::xs,i,_,_,h=>by simpa using h x (by simp)
 |e::es,[],i,_,_,_=>by simp[bB]
 |e::es,x::xs,i,he,hx,h=>by
  rw[abD] at he;have hx':=abD.1 hx;unfold bB
  split
  .rename_i e0
   subst e0;have:=zG es xs (i+1) he.2 hx'.2 fun y hy=>by
    rcases aa4.1 (h y (by simp[hy])) with e1|e1
    .subst e1;exact absurd (hx'.1 _ hy) (Qk _)
    .exact e1
   simp[this]
  .rename_i e0
   have gR:x∈es:=by
    rcases aa4.1 (h x (by simp)) with e1|e1
    .exact absurd e1 e0
    .exact e1
   exact zG es (x::xs) (i+1) he.2 hx fun y hy=>by
    rcases aa4.1 (h y hy) with e1|e1
    .subst e1
     rcases aa4.1 hy with e2|e2
     .exact absurd e2.symm e0
     .exact absurd (lt_trans (hx'.1 _ e2) (he.1 _ gR)) (Qk _)
    .exact e1
theorem Qj (m:Nat) (keep:List Int):∀(k t:Nat),t<m->(Ed.Fo m keep k)[t]? =some (decide (∃j,j<k/\(keep.getD j 0).toNat=t))
 |0,t,h=>by simp[Ed.Fo,h]
 |k+1,t,h=>by
  unfold Ed.Fo;rw[aa8];by_cases e:(keep.getD k 0).toNat=t
  .rw[if_pos e,if_pos (by rw[Ed.kZ];omega)]
   congr 1
   symm;rw[decide_eq_true_iff];exact⟨k,by omega,e⟩
  .rw[if_neg e,Qj m keep k t h]
   congr 1
   rw[decide_eq_decide];constructor
   .rintro⟨j,hj,hj'⟩;exact⟨j,by omega,hj'⟩
   .rintro⟨j,hj,hj'⟩
    by_cases ej:j=k
    .subst ej;exact absurd hj' e
    .exact⟨j,by omega,hj'⟩
theorem tS:∀(es xs:List E) (i:Nat) (b:List Bool),b.length=es.length->(∀t,t<es.length->b[t]? =some (decide (i+t∈bB xs es i)))->(bB xs es i).length=xs.length->Ed.sel b es=xs
 |[],[],i,b,_,_,_=>by cases b<;>simp[Ed.sel]
 |[],x::xs,i,b,_,_,h=>by simp[bB] at h
 |e::es,xs,i,[],hl,_,_=>by simp at hl
 |e::es,[],i,c::b,hl,hb,_=>by
  have h0:=hb 0 (by simp);simp[bB] at h0;subst h0;simp only[Ed.sel];refine tS es [] (i+1) b (by simpa using hl) (fun t ht=> ?_) (by simp[tY]);have:=hb (t+1) (by simpa using ht);simpa[tY] using this
 |e::es,x::xs,i,c::b,hl,hb,hn=>by
  have h0:=hb 0 (by simp);have hr:=fun t (ht:t<es.length)=>hb (t+1) (by simpa using ht)
  unfold bB at h0 hr hn
  split at hn
  .rename_i e0
   subst e0;simp at h0;subst h0;simp only[Ed.sel]
   congr 1
   refine tS es xs (i+1) b (by simpa using hl) (fun t ht=> ?_) (by simpa using hn);have:=hr t ht;rw[if_pos rfl] at this;rw[acI] at this;rw[this]
   congr 1
   rw[decide_eq_decide,aa4,show i+(t+1)=i+1+t by omega];constructor
   .rintro(h|h)
    .omega
    .exact h
   .exact .inr
  .rename_i e0
   rw[if_neg e0] at h0;simp at h0;have hc:c=false:=by
    cases c
    .rfl
    .exact absurd (xJ _ _ _ _ (by simpa using h0)).1 (by omega)
   subst hc;simp only[Ed.sel];refine tS es (x::xs) (i+1) b (by simpa using hl) (fun t ht=> ?_) hn;have:=hr t ht;rw[if_neg e0,acI,show i+(t+1)=i+1+t by omega] at this;exact this
def keep (xs es:List E):List Int:=(bB xs es 0).map fun (k:Nat)=>(k:Int)
theorem zM (xs es:List E):(keep xs es).length=(bB xs es 0).length:=by simp[keep]
theorem Ux {xs es:List E}:∀x∈keep xs es,0<=x/\x<(es.length:Int):=fun x hx=>by
 obtain⟨k,hk,rfl⟩:=abO.1 hx;have:=xJ _ _ _ _ hk;omega
theorem Rq {xs es:List E} (h:(bB xs es 0).length=xs.length):Ed.sel (Ed.mk es.length (keep xs es)) es=xs:=by
 refine tS es xs 0 _ (by unfold Ed.mk;rw[Ed.kZ]) (fun t ht=> ?_) h;unfold Ed.mk;rw[Qj _ _ _ _ ht]
 congr 1
 rw[decide_eq_decide];constructor
 .rintro⟨j,hj,e⟩
  rw[zM] at hj;have e2:(keep xs es).getD j 0=((bB xs es 0)[j]:Int):=by
   rw[aaL];unfold keep;rw[abj,aaE hj];rfl
  rw[e2] at e;have e3:(bB xs es 0)[j]=t:=by omega
  rw[abK,<-e3];exact acP hj
 .intro hm
  rw[abK] at hm;obtain⟨j,hj,e⟩:=List.getElem_of_mem hm;refine⟨j,by rw[zM];exact hj,?_⟩;rw[aaL];unfold keep;rw[abj,aaE hj,e];simp
theorem T8 {es:List E} (h:∀(i:Nat) (p q:E),es[i]? =some p->es[i+1]? =some q->Si.lt p q):es.Pairwise Si.lt:=by
 induction es with
 |nil=>exact List.Pairwise.nil
 |cons e r ih=>
  have hr:=ih fun i p q hp hq=>h (i+1) p q (by simpa using hp) (by simpa using hq)
  refine abD.2 ⟨fun x hx=> ?_,hr⟩;cases r with
  |nil=>simp at hx
  |cons f r'=>
   have h0:=h 0 e f rfl rfl;rcases aa4.1 hx with e1|e1
   .rw[e1];exact h0
   .exact lt_trans h0 ((abD.1 hr).1 x e1)
theorem XC {es:List E} (h:es.Pairwise Si.lt) (i:Nat) (p q:E) (hp:es[i]? =some p) (hq:es[i+1]? =some q):Si.lt p q:=by
 obtain⟨h1,rfl⟩:=aaH.1 hp;obtain⟨h2,rfl⟩:=aaH.1 hq;exact abr.1 h i (i+1) h1 h2 (by omega)
theorem val_sub {n:Int} {xs es:List E} (hv:Si.Val n es) (h:xs.Sublist es):Si.Val n xs:=by
 have hp:=(T8 hv.up).sublist h;refine⟨hv.lo,hv.hi,aa1 h.length_le hv.few,fun j p hj=> ?_,XC hp⟩;obtain⟨k,hk⟩:=abg (h.subset (aaJ hj));exact hv.each k p hk
theorem zC {n:Int} {xs es:List E} (hv:Si.Val n es) (hx:Ce.Ob xs):(bB xs es 0).length=xs.length↔∀x∈xs,x∈es:=
 ⟨fun h=>(pJ es xs 0 h).subset,zG es xs 0 (T8 hv.up) (T8 hx.2)⟩
theorem drop_cons {l:List E} {k:Nat} {p:E} (h:l[k]? =some p):l.drop k=p::l.drop (k+1):=by
 obtain⟨h1,rfl⟩:=aaH.1 h;exact acO h1
theorem Gm {xs es:List E} {L:List Nat} {j k:Nat} {p:E} (h:bB xs es 0=L++bB (xs.drop j) (es.drop k) k) (hx:xs[j]? =some p) (he:es[k]? =some p):bB xs es 0=(L++[k])++bB (xs.drop (j+1)) (es.drop (k+1)) (k+1):=by
 rw[h,drop_cons hx,drop_cons he];simp[bB]
theorem Ke {xs es:List E} {L:List Nat} {j k:Nat} {x p:E} (h:bB xs es 0=L++bB (xs.drop j) (es.drop k) k) (hx:xs[j]? =some x) (he:es[k]? =some p) (hne:x≠p):bB xs es 0=L++bB (xs.drop j) (es.drop (k+1)) (k+1):=by
 rw[h,drop_cons hx,drop_cons he];simp[bB,hne]
theorem CC {xs es:List E} {L:List Nat} {j k:Nat} (h:bB xs es 0=L++bB (xs.drop j) (es.drop k) k) (hj:xs.length<=j):bB xs es 0=L++bB (xs.drop j) (es.drop (k+1)) (k+1):=by
 rw[h,ac1 hj,tY,tY]
theorem step_end {xs es:List E} {L:List Nat} {j k:Nat} (h:bB xs es 0=L++bB (xs.drop j) (es.drop k) k) (hk:es.length<=k):bB xs es 0=L:=by
 rw[h,ac1 hk];cases xs.drop j<;>simp[bB]
end Ck
section
open Go.Proofs.Tryz
open Go.RowKit Go.Sort
theorem C6 (xo:Option Addr) (xc:Nat) (xs:List (Int×Int)) (ao:Option Addr) (cap:Nat) (es:List (Int×Int)) (w:World) (hx:ah w xo xs) (hxl:xs.length<=4611686018427387904) (he:ah w ao es) (hl:es.length<=4194304):
 Calls prog 96 #[.slice xo xs.length xc,.slice ao es.length cap] w fun e w'=>∃v,e= .returned (.tuple #[v,.bool (decide ((Ck.bB xs es 0).length=xs.length))])/\ak w' w.heap.size v (Ck.keep xs es)/\Below w.heap.size w w':=by
 obtain⟨i0,hi,hz0,hz1,hz2⟩:=info_parts Tryz.cL;obtain⟨m,hm⟩:∃m,xs.length=m:=⟨_,rfl⟩;obtain⟨n,hn⟩:∃n,es.length=n:=⟨_,rfl⟩;have HX:=ζ hx;have HE:=ζ he;have HM:=ζ hm;have HN:=ζ hn;rw[hm] at hxl;rw[hn] at hl;rw[hm,hn];clear hx he hm hn;have hmk:∀(c:Nat) (W:World),c<=4194304->(Instr.makeSlice 55 (.int .i64 0) (.int .i64 (c:Int))).run prog W= .ok (.slice (some ⟨W.heap.size,0,none⟩) 0 c) (W.alloc (.cells (madeCells #[.int .i64 0] c) 3)):=fun c W hc=>by
  have:=run_make (P:=prog) W 55 3 i0 (.int .i64 0) Tryz.underlying55 hi hz0 .i64 .i64 0 (c:Int) (by omega) (by omega) (by rw[hz2];omega) (by omega);rw[this,hz1];simp[Value.cells]
 have DC:∀c:Nat,c<=4194304->Hid (ak (w.alloc (.cells (madeCells #[.int .i64 0] c) 3)) w.heap.size (.slice (some ⟨w.heap.size,0,none⟩) 0 c) []):=fun c hc=>World.ownsRow_made w _ c (aaF _) (by unfold maxLen;omega) (by rw[size_madeCells];omega)
 have SD:∀c:Nat,Hid (Below w.heap.size w (w.alloc (.cells (madeCells #[.int .i64 0] c) 3))):=fun c=>(aaG _ _).alloc (aaF _) _
 have JL:=ζ DC;have Zc:=ζ SD;clear DC SD;rcases abW n m with hmn|hmn
 .have h1:min (m:Int) (n:Int)=(n:Int):=by omega
  have h2:(n:Int)<(m:Int):=by omega
  have h3:(n:Int)<=(m:Int):=by omega
  have h4:¬((m:Int)<=(n:Int)):=by omega
  have hm:=hmk n w (by omega);have tH:=JL.out n (by omega);have aD:=Zc.out n;clear JL Zc hmk;go_enter func96,ntmps96;go_wp2;clear hm h1 h2 h3 h4 hmn;go_loopw [6,17] (fun v c wr=>∃(k:Nat) (L:List Nat),k<=n/\c= .int .i64 k/\Ck.bB xs es 0=L++Ck.bB (xs.drop L.length) (es.drop k) k/\L.length<=m/\L.length<=k/\ak wr w.heap.size v (L.map fun (k:Nat)=>(k:Int))/\Below w.heap.size w wr) (fun _ c _=>n-(intOf c).toNat)
  case atStart=>exact⟨0,[],aaR _,rfl,rfl,aaR _,aaR _,tH.out,aD.out⟩
  case round=>
   obtain⟨k,L,hk,rfl,hL,hLm,D9,hrow,hb⟩:=hrel;obtain⟨j,hj⟩:∃j,L.length=j:=⟨_,rfl⟩;obtain⟨vo,vc,rfl,-,-⟩:=hrow.form;have jP:Hid (wr.ownsRow w.heap.size 3 1 (.slice vo j vc) j ((L.map fun (k:Nat)=>(k:Int)).map (Value.int .i64))):=by
    have h:=hrow;unfold ak at h;rw[aa3,hj] at h;exact h
   have HB:=ζ hb;have HJ:=ζ hj;rw[hj] at hL hLm D9;have HL:=ζ hL;have hs0:w.heap.size<=wr.heap.size:=hb.size;rw[aa3,hj];by_cases hlt:k<n
   .have aP:(k:Int)<(n:Int):=by omega
    have hk0:(0:Int)<=(k:Int):=by omega
    obtain⟨p,hp⟩:∃p,es[k]? =some p:=⟨_,aaE (by have:=HN.out;omega)⟩;obtain⟨b,o,rfl,c0,c1⟩:=(HE.out.later hb) k p hp;have hbl:b<wr.heap.size:=block_lt_of_cell c0;have HP:=ζ hp;obtain⟨p1,p2⟩:=p;dsimp only at c0 c1;by_cases hjm:j<m
    .have LO:(j:Int)<(m:Int):=by omega
     have hj0:(0:Int)<=(j:Int):=by omega
     obtain⟨x,hx⟩:∃x,xs[j]? =some x:=⟨_,aaE (by have:=HM.out;omega)⟩;obtain⟨b',o',rfl,d0,d1⟩:=(HX.out.later hb) j x hx;have afm:b'<wr.heap.size:=block_lt_of_cell d0;have Wi:=ζ hx;obtain⟨x1,x2⟩:=x;dsimp only at d0 d1;clear hrow hb hL hp hx hj;by_cases hpx:(x1,x2)=(p1,p2)
     .have kK:(x1==p1&&x2==p2)=true:=by cases hpx;simp
      have PG:=ζ hpx;clear hpx;go_wp2_with fail;have Pe:=Cc;go_quiet (fail);clear Pe;have aA:=ζ (below_drewN (HB.out.alloc hs0 (.cells #[.int .i64 p1,.int .i64 p2] 66)) nq);have eC:Hid (((wr.alloc (.cells #[.int .i64 p1,.int .i64 p2] 66)).drewN nq).ownsRow w.heap.size 3 1 (.slice vo j vc) j ((L.map fun (k:Nat)=>(k:Int)).map (Value.int .i64))):=jP.out.alloc _;generalize (wr.alloc (.cells #[.int .i64 p1,.int .i64 p2] 66)).drewN nq=w2 at aA eC ⊢;have hs2:w.heap.size<=w2.heap.size:=aA.out.size;go_wp2_with (at_builtin;refine wpList_append_own _ rfl _ _ 55 rfl w.heap.size 3 i0 (.int .i64 0) 1 8 Tryz.underlying55 hi hz0 hz1 hz2 rfl (by decide) _ _ _ rfl (abv eC.out _) ⟨w2.heap.size,0,none⟩ 1 1 [.int .i64 (k:Int)] rfl rfl (cell_one_new _ _ _) (by simp[Value.oneCell']) (by unfold maxLen;omega) (by omega) (by simp;omega) ?_;refine aaI ?_);refine ζ ?_;intro v3 w3 hrow3 hg3 _;have fK:Hid (ak w3 w.heap.size v3 ((L++[k]).map fun (k:Nat)=>(k:Int))):=by
       show w3.ownsRow _ _ _ _ _ _;rw[abt,abt,aaZ,aa3,HJ.out,ac6];exact hrow3
      have aK:=ζ ((aA.out.alloc hs2 (.cells #[.int .i64 (k:Int)] 3)).grown hg3 (by simp;omega) (fun b hb=>(aaO eC.out b hb).1));clear hrow3 hg3;go_wp2;go_roundw
      case rel=>
       have eB:(L++[k]).length=j+1:=by rw[aaZ,HJ.out];rfl
       have hst:=Ck.Gm HL.out (PG.out▸Wi.out) HP.out;refine⟨k+1,L++[k],by omega,by go_num,?_,by omega,by omega,fK.out,aK.out⟩;rw[eB];exact hst
      case measure=>simp[intOf];omega
     .have kK:(x1==p1&&x2==p2)=false:=by
       by_cases e1:x1=p1
       .have:x2≠p2:=fun e2=>hpx (by rw[e1,e2])
        simp[this]
       .simp[e1]
      have PG:=ζ hpx;clear hpx;go_wp2_with fail;have Pe:=Cc;go_quiet (fail);clear Pe;have aA:=ζ (below_drewN (HB.out.alloc hs0 (.cells #[.int .i64 p1,.int .i64 p2] 66)) nq);have eC:Hid (ak ((wr.alloc (.cells #[.int .i64 p1,.int .i64 p2] 66)).drewN nq) w.heap.size (.slice vo j vc) (L.map fun (k:Nat)=>(k:Int))):=by
       unfold ak;rw[aa3,HJ.out];exact jP.out.alloc _
      go_wp2;go_roundw
      case rel=>
       refine⟨k+1,L,by omega,by go_num,?_,by rw[HJ.out];omega,by rw[HJ.out];omega,eC.out,aA.out⟩;rw[HJ.out];exact Ck.Ke HL.out Wi.out HP.out PG.out
      case measure=>simp[intOf];omega
    .have aeZ:¬((j:Int)<(m:Int)):=by omega
     clear hrow hb hL hp hj;go_wp2_with fail;go_quiet (fail);have aA:=ζ (below_drewN (HB.out.alloc hs0 (.cells #[.int .i64 p1,.int .i64 p2] 66)) nq);have eC:Hid (ak ((wr.alloc (.cells #[.int .i64 p1,.int .i64 p2] 66)).drewN nq) w.heap.size (.slice vo j vc) (L.map fun (k:Nat)=>(k:Int))):=by
      unfold ak;rw[aa3,HJ.out];exact jP.out.alloc _
     go_wp2;go_roundw
     case rel=>
      refine⟨k+1,L,by omega,by go_num,?_,by rw[HJ.out];omega,by rw[HJ.out];omega,eC.out,aA.out⟩;rw[HJ.out];exact Ck.CC HL.out (by have:=HM.out;omega)
     case measure=>simp[intOf];omega
   .have hd:¬((k:Int)<(n:Int)):=by omega
    have hend:=Ck.step_end hL (by have:=HN.out;omega);have vG:ak wr w.heap.size (.slice vo j vc) (Ck.keep xs es):=by
     unfold Ck.keep ak;rw[hend,aa3,hj];exact jP.out
    have DN:decide ((Ck.bB xs es 0).length=xs.length)=((j:Int)==(m:Int)):=by
     rw[hend,hj,HM.out,ace,decide_eq_true_iff,beq_iff_eq];omega
    have lI:=ζ vG;have PU:Hid (((j:Int)==(m:Int))=decide ((Ck.bB xs es 0).length=xs.length)):=DN.symm;clear hrow hb hL hj hend vG DN;go_wp2;refine bodyPost_ret (v:= .tuple #[.slice vo j vc,.bool ((j:Int)==(m:Int))]) (by simp[results,results96,go_sem]) rfl ?_;exact⟨_,by rw[PU.out,HM.out],lI.out,HB.out⟩
 .have h1:min (m:Int) (n:Int)=(m:Int):=by omega
  have h2:¬((n:Int)<(m:Int)):=by omega
  have h3:(m:Int)<=(n:Int):=by omega
  have h4:True:=trivial;have hm:=hmk m w (by omega);have tH:=JL.out m (by omega);have aD:=Zc.out m;clear JL Zc hmk;go_enter func96,ntmps96;go_wp2;clear hm h1 h2 h3 h4 hmn;go_loopw [6,17] (fun v c wr=>∃(k:Nat) (L:List Nat),k<=n/\c= .int .i64 k/\Ck.bB xs es 0=L++Ck.bB (xs.drop L.length) (es.drop k) k/\L.length<=m/\L.length<=k/\ak wr w.heap.size v (L.map fun (k:Nat)=>(k:Int))/\Below w.heap.size w wr) (fun _ c _=>n-(intOf c).toNat)
  case atStart=>exact⟨0,[],aaR _,rfl,rfl,aaR _,aaR _,tH.out,aD.out⟩
  case round=>
   obtain⟨k,L,hk,rfl,hL,hLm,D9,hrow,hb⟩:=hrel;obtain⟨j,hj⟩:∃j,L.length=j:=⟨_,rfl⟩;obtain⟨vo,vc,rfl,-,-⟩:=hrow.form;have jP:Hid (wr.ownsRow w.heap.size 3 1 (.slice vo j vc) j ((L.map fun (k:Nat)=>(k:Int)).map (Value.int .i64))):=by
    have h:=hrow;unfold ak at h;rw[aa3,hj] at h;exact h
   have HB:=ζ hb;have HJ:=ζ hj;rw[hj] at hL hLm D9;have HL:=ζ hL;have hs0:w.heap.size<=wr.heap.size:=hb.size;rw[aa3,hj];by_cases hlt:k<n
   .have aP:(k:Int)<(n:Int):=by omega
    have hk0:(0:Int)<=(k:Int):=by omega
    obtain⟨p,hp⟩:∃p,es[k]? =some p:=⟨_,aaE (by have:=HN.out;omega)⟩;obtain⟨b,o,rfl,c0,c1⟩:=(HE.out.later hb) k p hp;have hbl:b<wr.heap.size:=block_lt_of_cell c0;have HP:=ζ hp;obtain⟨p1,p2⟩:=p;dsimp only at c0 c1;by_cases hjm:j<m
    .have LO:(j:Int)<(m:Int):=by omega
     have hj0:(0:Int)<=(j:Int):=by omega
     obtain⟨x,hx⟩:∃x,xs[j]? =some x:=⟨_,aaE (by have:=HM.out;omega)⟩;obtain⟨b',o',rfl,d0,d1⟩:=(HX.out.later hb) j x hx;have afm:b'<wr.heap.size:=block_lt_of_cell d0;have Wi:=ζ hx;obtain⟨x1,x2⟩:=x;dsimp only at d0 d1;clear hrow hb hL hp hx hj;by_cases hpx:(x1,x2)=(p1,p2)
     .have kK:(x1==p1&&x2==p2)=true:=by cases hpx;simp
      have PG:=ζ hpx;clear hpx;go_wp2_with fail;have Pe:=Cc;go_quiet (fail);clear Pe;have aA:=ζ (below_drewN (HB.out.alloc hs0 (.cells #[.int .i64 p1,.int .i64 p2] 66)) nq);have eC:Hid (((wr.alloc (.cells #[.int .i64 p1,.int .i64 p2] 66)).drewN nq).ownsRow w.heap.size 3 1 (.slice vo j vc) j ((L.map fun (k:Nat)=>(k:Int)).map (Value.int .i64))):=jP.out.alloc _;generalize (wr.alloc (.cells #[.int .i64 p1,.int .i64 p2] 66)).drewN nq=w2 at aA eC ⊢;have hs2:w.heap.size<=w2.heap.size:=aA.out.size;go_wp2_with (at_builtin;refine wpList_append_own _ rfl _ _ 55 rfl w.heap.size 3 i0 (.int .i64 0) 1 8 Tryz.underlying55 hi hz0 hz1 hz2 rfl (by decide) _ _ _ rfl (abv eC.out _) ⟨w2.heap.size,0,none⟩ 1 1 [.int .i64 (k:Int)] rfl rfl (cell_one_new _ _ _) (by simp[Value.oneCell']) (by unfold maxLen;omega) (by omega) (by simp;omega) ?_;refine aaI ?_);refine ζ ?_;intro v3 w3 hrow3 hg3 _;have fK:Hid (ak w3 w.heap.size v3 ((L++[k]).map fun (k:Nat)=>(k:Int))):=by
       show w3.ownsRow _ _ _ _ _ _;rw[abt,abt,aaZ,aa3,HJ.out,ac6];exact hrow3
      have aK:=ζ ((aA.out.alloc hs2 (.cells #[.int .i64 (k:Int)] 3)).grown hg3 (by simp;omega) (fun b hb=>(aaO eC.out b hb).1));clear hrow3 hg3;go_wp2;go_roundw
      case rel=>
       have eB:(L++[k]).length=j+1:=by rw[aaZ,HJ.out];rfl
       have hst:=Ck.Gm HL.out (PG.out▸Wi.out) HP.out;refine⟨k+1,L++[k],by omega,by go_num,?_,by omega,by omega,fK.out,aK.out⟩;rw[eB];exact hst
      case measure=>simp[intOf];omega
     .have kK:(x1==p1&&x2==p2)=false:=by
       by_cases e1:x1=p1
       .have:x2≠p2:=fun e2=>hpx (by rw[e1,e2])
        simp[this]
       .simp[e1]
      have PG:=ζ hpx;clear hpx;go_wp2_with fail;have Pe:=Cc;go_quiet (fail);clear Pe;have aA:=ζ (below_drewN (HB.out.alloc hs0 (.cells #[.int .i64 p1,.int .i64 p2] 66)) nq);have eC:Hid (ak ((wr.alloc (.cells #[.int .i64 p1,.int .i64 p2] 66)).drewN nq) w.heap.size (.slice vo j vc) (L.map fun (k:Nat)=>(k:Int))):=by
       unfold ak;rw[aa3,HJ.out];exact jP.out.alloc _
      go_wp2;go_roundw
      case rel=>
       refine⟨k+1,L,by omega,by go_num,?_,by rw[HJ.out];omega,by rw[HJ.out];omega,eC.out,aA.out⟩;rw[HJ.out];exact Ck.Ke HL.out Wi.out HP.out PG.out
      case measure=>simp[intOf];omega
    .have aeZ:¬((j:Int)<(m:Int)):=by omega
     clear hrow hb hL hp hj;go_wp2_with fail;go_quiet (fail);have aA:=ζ (below_drewN (HB.out.alloc hs0 (.cells #[.int .i64 p1,.int .i64 p2] 66)) nq);have eC:Hid (ak ((wr.alloc (.cells #[.int .i64 p1,.int .i64 p2] 66)).drewN nq) w.heap.size (.slice vo j vc) (L.map fun (k:Nat)=>(k:Int))):=by
      unfold ak;rw[aa3,HJ.out];exact jP.out.alloc _
     go_wp2;go_roundw
     case rel=>
      refine⟨k+1,L,by omega,by go_num,?_,by rw[HJ.out];omega,by rw[HJ.out];omega,eC.out,aA.out⟩;rw[HJ.out];exact Ck.CC HL.out (by have:=HM.out;omega)
     case measure=>simp[intOf];omega
   .have hd:¬((k:Int)<(n:Int)):=by omega
    have hend:=Ck.step_end hL (by have:=HN.out;omega);have vG:ak wr w.heap.size (.slice vo j vc) (Ck.keep xs es):=by
     unfold Ck.keep ak;rw[hend,aa3,hj];exact jP.out
    have DN:decide ((Ck.bB xs es 0).length=xs.length)=((j:Int)==(m:Int)):=by
     rw[hend,hj,HM.out,ace,decide_eq_true_iff,beq_iff_eq];omega
    have lI:=ζ vG;have PU:Hid (((j:Int)==(m:Int))=decide ((Ck.bB xs es 0).length=xs.length)):=DN.symm;clear hrow hb hL hj hend vG DN;go_wp2;refine bodyPost_ret (v:= .tuple #[.slice vo j vc,.bool ((j:Int)==(m:Int))]) (by simp[results,results96,go_sem]) rfl ?_;exact⟨_,by rw[PU.out,HM.out],lI.out,HB.out⟩
end
end Go.Proofs.YtdbjpbjocmcpkaaGreatDoor
