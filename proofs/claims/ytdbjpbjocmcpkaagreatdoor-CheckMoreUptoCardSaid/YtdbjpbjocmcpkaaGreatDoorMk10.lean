import Derived.Test.YtdbjpbjocmcpkaaGreatDoorMk03
import Derived.Test.YtdbjpbjocmcpkaaGreatDoorMk08
import Derived.ArgAppend
import Derived.Deep.DeepAppendRoom
import Derived.Laws.Append
import Derived.Lib.AppendZerosOnto
set_option maxHeartbeats 8000000
set_option maxRecDepth 100000
namespace Go.Proofs.YtdbjpbjocmcpkaaGreatDoor
section
open Go.RowKit
section
variable {W W1:World} {B:Nat} {vs:List Value} {ls:List (List Int)}
theorem ay.OH {u g c K B':Nat} {x':Value} {l':List Int} (h:ay W1 B (.slice (some ⟨g,0,none⟩) K c) vs ls) (hls:ls.length=K) (hu:u<K) (hg':g<B') (dw:∀(a:Nat) (y:Value) (b:Nat),vs[a]? =some y->y.ownBlock=some b->b<B') (hown:av W1 B' x' l') (hB:B<=B'):
 (∃y,W1.cell? ⟨g,u,none⟩=some y)/\W1.frozen? ⟨g,u,none⟩=false/\ay (W1.setCell ⟨g,u,none⟩ x') B (.slice (some ⟨g,0,none⟩) K c) (vs.set u x') (ls.set u l')/\Below B W1 (W1.setCell ⟨g,u,none⟩ x'):=by
 subst hls;have h1:=h;have mY:u<vs.length:=by rw[h.len];exact hu
 obtain⟨hgB,GX⟩:=aaJ h.outer g rfl;have hst:=h1.outer.stored u x';have hc:=abP h1.outer (g:=g) rfl u _ (aaC mY);have ea:((⟨g,0,none⟩:Addr).add u)=⟨g,u,none⟩:=by
  by_cases h0:u=0<;>simp[Addr.add,h0]
 rw[ea] at hc;have hat:∀b,x'.ownBlock=some b->B'<=b:=fun b hb=>(aaJ hown b hb).1
 have Qe:∀b,b≠g->(W1.setCell ⟨g,u,none⟩ x').heap[b]? =W1.heap[b]? :=fun b hb=>heap_setCell_other W1 ⟨g,u,none⟩ b x' hb
 have hold:=dw;refine⟨⟨_,hc⟩,h1.outer.frozenAt u,⟨by simp[h.len],by rw[abV];exact hst.1,fun a y k ha hk=> ?_,fun a a' y y' b hne ha ha' hb=> ?_,fun a y b ha hb=> ?_⟩,?_⟩
 .rw[aaR] at ha hk
  by_cases e:u=a
  .subst e
   rw[if_pos rfl,if_pos mY] at ha;rw[if_pos rfl,if_pos hu] at hk;cases ha;cases hk;refine(hown.lower hB).same fun b hb _=>Qe b (fun e=> ?_)
   have:=hat b hb;omega
  .rw[if_neg e] at ha hk
   exact(h1.row a y k ha hk).same fun b hb hl=>Qe b (fun e=>h.far a y b ha hb (by rw[e];rfl))
 .rw[aaR] at ha ha'
  by_cases e:u=a
  .subst e
   rw[if_pos rfl,if_pos mY] at ha;cases ha;rw[if_neg hne] at ha';intro hc;have:=hold a' y' b ha' hc;have:=hat b hb;omega
  .rw[if_neg e] at ha
   by_cases e':u=a'
   .subst e'
    rw[if_pos rfl,if_pos mY] at ha';cases ha';intro hc;have:=hold a y b ha hb;have:=hat b hc;omega
   .rw[if_neg e'] at ha'
    exact h.apart a a' y y' b hne ha ha' hb
 .rw[aaR] at ha
  by_cases e:u=a
  .subst e
   rw[if_pos rfl,if_pos mY] at ha;cases ha;intro hc;obtain rfl:g=b:=by simpa[Value.ownBlock] using hc
   have:=hat g hb;omega
  .rw[if_neg e] at ha
   exact h.far a y b ha hb
 .exact(aaE B W1).setCell (p:=⟨g,u,none⟩) hgB x'
theorem ay.made {g n:Nat} (h:W.ownsRow B 55 1 (.slice (some ⟨g,0,none⟩) n n) n (madeCells #[.slice none 0 0] n).toList):ay W B (.slice (some ⟨g,0,none⟩) n n) (List.replicate n (.slice none 0 0)) (List.replicate n []):=by
 rw[toList_madeCells_one] at h;refine⟨by simp,by rw[abI];exact h,fun u x l hx hl=> ?_,fun u u' x x' b _ hx _ hb=> ?_,fun u x b hx hb=> ?_⟩
 .have hx:=abW (aaG hx)
  have hl:=abW (aaG hl);subst hx;subst hl;exact av.nil _ _
 .have hx:=abW (aaG hx)
  subst hx;cases hb
 .have hx:=abW (aaG hx)
  subst hx;cases hb
theorem ay.rws {w:World} {v:Value} (h:ay w B v vs ls) (hl:∀l∈ls,l.length<=17592186043904):∃xo xc,v= .slice xo ls.length xc/\bu w xo ls/\ls.length<=xc:=by
 obtain⟨ao,c,e⟩:=bJ h;subst e;refine⟨ao,c,rfl,fun u l hu=> ?_,?_⟩
 .obtain⟨x,hx⟩:=h.at' hu
  have hlt:0<ls.length:=by have:=(aaF.1 hu).1;omega
  obtain⟨g,c',e⟩:=JZ h hlt;cases e;have hc:=abP h.outer (g:=g) rfl u x hx;have ea:((⟨g,0,none⟩:Addr).add u)=⟨g,0+u,none⟩:=by
   by_cases h0:u=0<;>simp[Addr.add,h0]
  rw[ea] at hc;have hrow:=h.row u x l hx hu;obtain⟨A,C,rfl,hL,-⟩:=hrow.oQ;refine⟨g,0,A,C,rfl,hc,hL,hl l (aaG hu),?_⟩;rcases hrow.2 with ⟨h',h0⟩|⟨g',cap,cur,h',_,_,hlc,hm,_⟩
  .obtain⟨-,-,hc0⟩:=Value.slice.inj h'
   exact⟨by omega,by omega⟩
  .cases h';exact⟨hlc,by unfold maxLen at hm;omega⟩
 .rcases h.outer.2 with ⟨h',h0⟩|⟨g',cap,cur,h',_,_,hlc,_⟩
  .rw[h0];exact aaL _
  .cases h';exact hlc
end
namespace Ro
def fill (f:List Int->List Int) (ls:List (List Int)) (k:Nat):List (List Int):=(ls.take k).map f++List.replicate (ls.length-k) []
theorem KQ (f:List Int->List Int) (ls:List (List Int)) {k:Nat} (h:k<=ls.length):(fill f ls k).length=ls.length:=by simp[fill];omega
theorem Hh (f:List Int->List Int) (ls:List (List Int)):fill f ls 0=List.replicate ls.length []:=by simp[fill]
theorem KS (f:List Int->List Int) (ls:List (List Int)):fill f ls ls.length=ls.map f:=by simp[fill]
theorem KP {f:List Int->List Int} {ls:List (List Int)} {k:Nat} {l:List Int} (h:ls[k]? =some l):(fill f ls k).set k (f l)=fill f ls (k+1):=by
 have hk:=(aaF.1 h).1;refine abz fun j=> ?_
 unfold fill;rw[aaR,List.getElem?_append,List.getElem?_append];simp only[aaP,abq,aaN,abI,aaY,acg,abB];have m1:min k ls.length=k:=by omega
 have m2:min (k+1) ls.length=k+1:=by omega
 rw[m1,m2];by_cases e:k=j
 .subst e
  rw[if_pos rfl,if_pos (by omega),if_pos (by omega),if_pos (by omega),h];rfl
 .rw[if_neg e]
  by_cases h1:j<k
  .rw[if_pos h1,if_pos h1,if_pos (by omega:j<k+1),if_pos (by omega:j<k+1)]
  .rw[if_neg h1,if_neg (by omega:¬j<k+1)]
   have e1:(j-k<ls.length-k)↔(j-(k+1)<ls.length-(k+1)):=by omega
   by_cases h2:j-k<ls.length-k
   .rw[if_pos h2,if_pos (e1.1 h2)]
   .rw[if_neg h2,if_neg (fun h3=>h2 (e1.2 h3))]
end Ro
end
section
open Go.RowKit
def Le (ls:List (List Int)) (w:World) (e:Ending) (w':World):Prop:=∃v vs,e= .returned v/\ay w' w.heap.size v vs ls/\Below w.heap.size w w'
end
section
open Go.RowKit
theorem rW {ops:Array Oper} {rest:List Oper} {o:Oper} {a:Act} {Q:Exit->Act->World->Prop} (hgd:o.guard=none) (s x:Operand) (T:TypeId) (hT:Tryz.prog.underlying T=some (.slice 55))
 (ho:o.op= .call { callee:= .builtin .append,args:= #[s,x],argTypes:= #[T,T] }) (W:World) (B:Nat) (v:Value) (vs:List Value) (ls:List (List Int)) (y:Value) (l:List Int) (hr:ay W B v vs ls)
 (hy:av W B y l) (h1:∀(u:Nat) (z:Value) (b:Nat),vs[u]? =some z->z.ownBlock=some b->y.ownBlock≠some b) (h2:∀b,v.ownBlock=some b->y.ownBlock≠some b) (hB:B<=W.heap.size) (hl:ls.length<=5864062014804) (hs:a.eval s=v) (hx:a.eval x= .slice (some ⟨W.heap.size,0,none⟩) 1 1)
 (h:∀v' w',ay w' B v' (vs++[y]) (ls++[l])->(∀b,b<W.heap.size->v.ownBlock≠some b->w'.heap[b]? =W.heap[b]?)->(v'.ownBlock=v.ownBlock\/∀b,v'.ownBlock=some b->W.heap.size<=b)->Below B W w'->wpList Tryz.prog ops Q rest (a.put o.dst v') w'):
 wpList Tryz.prog ops Q (o::rest) a (W.alloc (.cells #[y] 55)):=by
 obtain⟨i0,hi,hz0,hz1,hz2⟩:=info_parts Tryz.rj;have hb0:Below B W (W.alloc (.cells #[y] 55)):=(aaE _ _).alloc (by omega) _;have XX:∃ao c,y= .slice ao l.length c:=by
  obtain⟨ao,c,e,-⟩:=hy.form;exact⟨ao,c,e⟩
 obtain⟨yo,yc,rfl⟩:=XX;refine wpList_append_own_at _ hgd s x T ho B 55 i0 (.slice none 0 0) 1 24 hT hi hz0 hz1 hz2 rfl (by decide) _ _ _ hs (abe hr.outer _) ⟨W.heap.size,0,none⟩ 1 1 [.slice yo l.length yc] hx rfl (cell_one_new _ _ _) (by simp[Value.oneCell']) (by unfold maxLen;omega) (by omega) (by simp;omega) ?_;intro v' w' hown' hg _ hat;have YE:ay w' B v' (vs++[.slice yo l.length yc]) (ls++[l]):=by
  refine hr.grow hy h1 h2 (tmp:= .cells #[.slice yo l.length yc] 55) hown' hg ?_;rcases hat with h1|h1
  .exact .inl h1
  .exact .inr (by simpa using h1)
 refine h v' w' YE (fun b hb hne=> ?_) ?_ (hb0.grown hg (by simp;omega) (fun b O8=>(aaJ hr.outer b O8).1))
 .exact(hg.block b (by simp;omega) (fun e=>hne e.symm)).trans (aaO W _ b hb)
 .rcases hat with h1|h1
  .exact .inl h1
  .refine .inr fun b hb=> ?_
   rw[h1] at hb;have:=aaQ hb;simp at this;omega
end
section
open Go.RowKit
section
variable {w w':World} {B:Nat} {v:Value} {vs:List Value} {ls:List (List Int)}
def bY (vs:List Value) (b:Nat):Prop:=∃(u:Nat) (x:Value),vs[u]? =some x/\x.ownBlock=some b
theorem ay.kept (h:ay w B v vs ls) (hb:∀b,(v.ownBlock=some b\/bY vs b)->b<w.heap.size->w'.heap[b]? =w.heap[b]?):ay w' B v vs ls:=
 ⟨h.len,bN h.outer fun g hg _ hl=>hb g (.inl hg) hl,fun u x l hx hl=>(h.row u x l hx hl).same fun g hg hlt=>hb g (.inr ⟨u,x,hx,hg⟩) hlt,h.apart,h.far⟩
end
end
section
open Go.RowKit
def Lh (l:List Int) (w:World) (e:Ending) (w':World):Prop:=∃v,e= .returned v/\av w' w.heap.size v l/\Below w.heap.size w w'
end
section
open Go.RowKit
def mD (w:World) (g:Nat) (l:List (Int×Int)):Prop:=w.heap[g]? =some (.cells (dD l).toArray 66 (0,0))
section
variable {w w':World} {g:Nat} {l:List (Int×Int)}
theorem mD.cells (h:mD w g l) {i:Nat} {p:Int×Int} (hp:l[i]? =some p):w.cell? ⟨g,i*2,none⟩=some (.int .i64 p.1)/\w.cell? ⟨g,i*2+1,none⟩=some (.int .i64 p.2):=by
 obtain⟨h0,h1⟩:=iM l i p hp;unfold mD at h;simp[World.cell?,h,h0,h1]
theorem mD.at (h:mD w g l):ah w (some ⟨g,0,none⟩) l:=fun j p hj=>⟨g,0,rfl,by rw[aa7];exact(h.cells hj).1,by rw[aa7];exact(h.cells hj).2⟩
end
theorem Tryz.GF:(Tryz.prog.info? 4).map (fun i=>(i.zero,i.size,i.bytes))=some (some (.bool false),1,1):=by kernel_rfl
def bU (w:World) (g:Nat) (l:List Bool):Prop:=w.heap[g]? =some (.cells (l.map Value.bool).toArray 4 (0,0))
section
variable {w w':World} {g:Nat} {l:List Bool}
theorem bU.lt (h:bU w g l):g<w.heap.size:=lt_of_block h
theorem bU.cell (h:bU w g l) {i:Nat} {x:Bool} (hx:l[i]? =some x):w.cell? ⟨g,i,none⟩=some (.bool x):=by
 unfold bU at h;simp[World.cell?,h,hx]
theorem bU.free (h:bU w g l) (i:Nat):w.frozen? ⟨g,i,none⟩=false:=by
 unfold bU at h;simp[World.frozen?,h]
theorem bU.set (h:bU w g l) (i:Nat) (x:Bool):bU (w.setCell ⟨g,i,none⟩ (.bool x)) g (l.set i x):=by
 unfold bU at h ⊢;rw[heap_setCell_same w g i _ _ _ h];simp[List.map_set]
theorem bU.later (h:bU w g l) (hb:Below w.heap.size w w'):bU w' g l:=(hb.block g h.lt).trans h
theorem Fl {B n:Nat} (h:w.ownsRow B 4 1 (.slice (some ⟨g,0,none⟩) n n) n (l.map Value.bool)):bU w g l:=by
 rcases h.2 with ⟨h,_⟩|⟨g',cap,cur,e,_,hh,_,_,hs,ht⟩
 .cases h
 .cases e
  rw[aa3 (by simp;omega)] at ht;unfold bU;rw[hh,<-ht]
end
theorem Ke (n:Nat):(madeCells #[.bool false] n).toList=(List.replicate n false).map Value.bool:=by
 rw[toList_madeCells_one,acR]
end
section
open Go.RowKit Go.Sort
theorem JQ (W:World) (o:Obj):(W.alloc o).heap.size=W.heap.size+1:=by simp
theorem Fc (ao:Option Addr) (cap g:Nat) (es:List (Int×Int)) (bs:List Bool) (w:World) (he:ah w ao es) (hl:es.length<=4194304) (hb:bU w g bs) (hbl:bs.length=es.length):
 Calls Tryz.prog 143 #[.slice (some ⟨g,0,none⟩) es.length es.length,.slice ao es.length cap] w fun e w'=>∃v,e= .returned v/\aL w' w.heap.size v (Ed.sel bs es)/\Below w.heap.size w w':=by
 have HE:=ζ he;have Om:=ζ hb;have zZ:=ζ hbl;clear he hb hbl;go_enter Tryz.func143,Tryz.ntmps143;go_wp2;go_loopw [5,10] (fun v c wr=>∃(k:Nat) (L:List (Int×Int)),k<=es.length/\c= .int .i64 k/\L=Ed.sel bs (es.take k)/\aL wr w.heap.size v L/\Below w.heap.size w wr) (fun _ c _=>es.length-(intOf c).toNat)
 case atStart=>exact⟨0,[],aaL _,rfl,by cases bs with|nil=>rfl|cons b _=>cases b<;>rfl,aL.nil _ _,aaE _ _⟩
 case round=>
  obtain⟨k,L,hk,rfl,hL,hrow,hb⟩:=hrel;have bM:=ζ hrow;have HB:=ζ hb;have HL:=ζ hL;have hs0:w.heap.size<=wr.heap.size:=hb.size;have qc:L.length<=k:=by
   rw[hL];refine aaM (Ed.wG _ _).length_le ?_;rw[abq];omega
  by_cases hlt:k<es.length
  .have aX:(k:Int)<(es.length:Int):=by omega
   have hk0:(0:Int)<=(k:Int):=by omega
   obtain⟨p,hp⟩:∃p,es[k]? =some p:=⟨_,aaC hlt⟩;obtain⟨x,hx⟩:∃x,bs[k]? =some x:=⟨_,aaC (by rw[zZ.out];exact hlt)⟩;obtain⟨b,o,rfl,c0,c1⟩:=(HE.out.later hb) k p hp;have hbl:b<wr.heap.size:=block_lt_of_cell c0;have hB2:=Om.out.later hb;have d0:=hB2.cell hx;have GX:=hB2.lt;have HT:=ζ (Ed.Am bs es k p x hp hx);obtain⟨p1,p2⟩:=p;dsimp only at c0 c1;have HEB:Hid ((wr.alloc (.cells #[.int .i64 p1,.int .i64 p2] 66)).heap[wr.heap.size]? =some (.cells #[.int .i64 p1,.int .i64 p2] 66 (0,0))):=heap_alloc_new wr _;clear hrow hb hL hp hx hB2;cases x with
   |false=>
    go_wp2;go_roundw
    case rel=>exact⟨k+1,L,by omega,by go_num,by rw[HL.out,HT.out];simp,bM.out.alloc _,HB.out.alloc hs0 _⟩
    case measure=>simp[intOf];omega
   |true=>
    have aC:=ζ (HB.out.alloc hs0 (.cells #[.int .i64 p1,.int .i64 p2] 66));go_wp2_with (at_builtin;refine zn rfl _ _ rfl _ w.heap.size _ L p1 p2 (bM.out.alloc _) (by simp;omega) (by omega) rfl (by first|rfl|(simp only[JQ];rfl)) ?_;refine aaH ?_);refine ζ ?_;intro v' w3 hrow3 hb3;have mq:=ζ hrow3;have aK:=ζ (aC.out.trans hb3);clear hrow3 hb3;go_wp2;go_roundw
    case rel=>exact⟨k+1,_,by omega,by go_num,by rw[HT.out,<-HL.out];simp,mq.out,aK.out⟩
    case measure=>simp[intOf];omega
  .have hd:¬((k:Int)<(es.length:Int)):=by omega
   have rE:L=Ed.sel bs es:=by rw[hL,aa3 (by omega)]
   have jC:=ζ rE;clear hrow hb hL rE;go_wp2;go_ret;exact⟨_,rfl,by rw[<-jC.out];exact bM.out,HB.out⟩
end
section
open Go.RowKit
structure LW (w:World) where
 val:World
 h:Below w.heap.size w val
theorem LW.any (w:World):Nonempty (LW w):=⟨⟨w,aaE _ _⟩⟩
theorem bP {P:Program} {id:Nat} {Q:Exit->Act->World->Prop} {a:Act} {w:World} {l:List Oper} (hm:P.follows .mixedOrders=true) (hB:Region.lexB .any l.toArray=true)
 (h:wpQuiet P l.toArray (fun w'=>∃D:LW w,w'=D.val) (fun a'=>∀w',(∃D:LW w,w'=D.val)->Q .normal a' w') l a):(Code.region id l.toArray true).wp P Q a w:=
 wp_region_quiet (C:=fun w'=>∃D:LW w,w'=D.val) hm hB ⟨⟨w.drew,(aaE _ _).drew⟩,rfl⟩ (by simpa using h)
end
section
open Go.RowKit Go.Sort
structure mL (w:World) (n:Int) (ao:Option Addr) (cap:Nat) (es:List (Int×Int)) (W:World):Prop where
 low:Below w.heap.size w W
 box:W.heap[w.heap.size]? =some (.cells #[.int .i64 n,.slice ao es.length cap] 24 (0,0))
 res:W.heap[w.heap.size+1]? =some (.cells #[.int .i64 0,.slice none 0 0] 24 (0,0))
section
variable {w W W':World} {n:Int} {ao:Option Addr} {cap:Nat} {es:List (Int×Int)}
theorem mL.start:mL w n ao cap es ((w.alloc (.cells #[.int .i64 n,.slice ao es.length cap] 24)).alloc (.cells #[.int .i64 0,.slice none 0 0] 24)):=by
 refine⟨((aaE _ _).alloc (aaD _) _).alloc (by simp) _,?_,?_⟩
 .rw[aaO _ _ _ (by simp)]
  exact heap_alloc_new w _
 .have:=heap_alloc_new (w.alloc (.cells #[.int .i64 n,.slice ao es.length cap] 24)) (.cells #[.int .i64 0,.slice none 0 0] 24)
  simpa using this
theorem mL.later (h:mL w n ao cap es W) (hb:Below W.heap.size W W'):mL w n ao cap es W':=
 ⟨h.low.trans (hb.mono h.low.size),(hb.block _ (lt_of_block h.box)).trans h.box,(hb.block _ (lt_of_block h.res)).trans h.res⟩
theorem mL.cells (h:mL w n ao cap es W):W.cell? ⟨w.heap.size,0,none⟩=some (.int .i64 n)/\W.cell? ⟨w.heap.size,1,none⟩=some (.slice ao es.length cap):=⟨(af h.box).1,(af h.box).2.1⟩
theorem mL.BA (h:mL w n ao cap es W):W.cell? ⟨w.heap.size+1,0,none⟩=some (.int .i64 0)/\W.cell? ⟨w.heap.size+1,1,none⟩=some (.slice none 0 0):=⟨(af h.res).1,(af h.res).2.1⟩
theorem mL.free (h:mL w n ao cap es W) (i:Nat):W.frozen? ⟨w.heap.size+1,i,none⟩=false:=by simp[World.frozen?,h.res]
theorem mL.size (h:mL w n ao cap es W):w.heap.size+1<W.heap.size:=lt_of_block h.res
theorem Hx {b i r:Nat} (h:b≠r) (x y:Value):((W.setCell ⟨r,0,none⟩ x).setCell ⟨r,1,none⟩ y).cell? ⟨b,i,none⟩=W.cell? ⟨b,i,none⟩:=by
 simp[World.cell?,cB h x y]
theorem J5 {B r:Nat} {v:Value} (h:aL W B v es) (hr:v.ownBlock≠some r) (x y:Value):aL ((W.setCell ⟨r,0,none⟩ x).setCell ⟨r,1,none⟩ y) B v es:=by
 refine⟨h.1,?_⟩;rcases h.2 with h|⟨g,cap,cur,e,hgB,hh,hk⟩
 .exact .inl h
 .have hg:g≠r:=fun e'=>hr (by rw[e,e'];rfl)
  refine .inr ⟨g,cap,cur,e,hgB,?_,hk⟩;rw[heap_setCell_other _ ⟨r,1,none⟩ g y hg,heap_setCell_other _ ⟨r,0,none⟩ g x hg];exact hh
theorem mL.store (h:mL w n ao cap es W) (x y:Value):Below w.heap.size w ((W.setCell ⟨w.heap.size+1,0,none⟩ x).setCell ⟨w.heap.size+1,1,none⟩ y)/\((W.setCell ⟨w.heap.size+1,0,none⟩ x).setCell ⟨w.heap.size+1,1,none⟩ y).cell? ⟨w.heap.size+1,0,none⟩=some x/\((W.setCell ⟨w.heap.size+1,0,none⟩ x).setCell ⟨w.heap.size+1,1,none⟩ y).cell? ⟨w.heap.size+1,1,none⟩=some y:=by
 obtain⟨r0,r1,-⟩:=af (bS h.res x y);exact⟨(h.low.setCell (by simp) _).setCell (by simp) _,r0,r1⟩
end
end
section
open Go.Proofs.Tryz
open Go.RowKit Go.Sort
theorem KU (n:Int) (lo:Option Addr) (q lc:Nat) (l:List Int) (ao:Option Addr) (cap:Nat) (es:List (Int×Int)) (w:World) (he:ah w ao es) (hl:es.length<=4611686018427387904) (hq:l.length=q) (hat:aZ w lo l) (RV:q<=4611686018427387904):
 Calls prog 97 #[aD n ao es.length cap,.slice lo q lc] w (XD (Ed.sub n es l) w):=by
 have HE:=ζ he;have xG:=fun W (hb:Below w.heap.size w W)=>lu n ao cap es W (he.later hb) hl
 have hB0:=mL.start (w:=w) (n:=n) (ao:=ao) (cap:=cap) (es:=es);unfold aD at xG ⊢;have jA:=ζ xG;have aW:=ζ hB0;have Wp:=ζ Dn;have Lt:=ζ hat;have HQ:=ζ hq;clear he xG hB0 hat hq;cases hv:Si.valid n es with
 |false=>
  have hr:Ed.sub n es l=(0,[],1):=by unfold Ed.sub;rw[if_pos hv]
  rw[hr];rw[hv] at jA;clear hv hr;go_enter func97,ntmps97;go_wp2_with (go_at_call 38;refine(jA.out _ aW.out.low).mono ?_;rintro e w1 ⟨rfl,hb⟩;refine aaH ?_);refine ζ ?_;have aN:=ζ (aW.out.later hb);clear hb;obtain⟨g0,g1⟩:=aN.out.cells;have hs1:=aN.out.size;have hs0:w.heap.size<w1.heap.size:=by omega
  go_wp2_with (go_at_call 141;refine(Wp.out _ _).mono ?_;rintro e w2 ⟨rfl,hb⟩;have aC:=ζ (aN.out.later hb);clear hb;obtain⟨r0,r1⟩:=aC.out.BA;have f0:=aC.out.free 0;have f1:=aC.out.free 1);obtain⟨hb,s0,s1⟩:=aC.out.store (.int .i64 0) (.slice none 0 0);refine bodyPost_ret (v:= .tuple #[.agg #[.int .i64 0,.slice none 0 0],.int .i64 1]) (by simp[results,results97,go_sem,s0,s1]) rfl ?_;exact⟨_,rfl,aL.nil _ _,hb⟩
 |true=>
  have hval:=Si.aJ.1 hv;have dA:=hval.few;have hlo:=hval.lo;have hhi:=hval.hi;have iB:=ζ hval;have HV:=ζ hv;rw[hv] at jA;clear hv hval;obtain⟨i0,hi,hz0,hz1,hz2⟩:=info_parts Tryz.GF;go_enter func97,ntmps97;go_wp2_with (go_at_call 38;refine(jA.out _ aW.out.low).mono ?_;rintro e w1 ⟨rfl,hb⟩;refine aaH ?_);refine ζ ?_;have aN:=ζ (aW.out.later hb);clear hb;obtain⟨g0,g1⟩:=aN.out.cells;have hs1:=aN.out.size;have hs0:w.heap.size<w1.heap.size:=by omega
  go_wp2_with (at_make;refine wpList_make_full _ rfl _ _ 237 rfl w1.heap.size 4 i0 (.bool false) 1 Tryz.underlying237 hi hz0 hz1 _ _ _ _ es.length rfl rfl rfl rfl (by rw[hz2];omega) (by unfold maxLen;omega) (aaD _) ?_;refine aaH ?_);refine ζ ?_;intro w3 hrow3 hg3;have zZ:Hid (bU w3 w1.heap.size (List.replicate es.length false)):=by
   refine Fl (B:=w1.heap.size) (n:=es.length) ?_;rw[<-Ke];simpa using hrow3
  have hb3:Below w1.heap.size w1 w3:=(aaE _ _).grown hg3 (aaD _) (fun j hj=>by cases hj);have aK:=ζ (aN.out.later hb3);clear hrow3 hg3 hb3 g0 g1;go_wp2;go_loopw [21] (fun c wr=>∃(k:Nat) (L:List Bool),k<=q/\c= .int .i64 k/\L=Ed.zz es.length l k/\(∀(i:Nat) (x:Int),i<k->l[i]? =some x->0<=x/\x<(es.length:Int))/\bU wr w1.heap.size L/\mL w n ao cap es wr) (fun c _=>q-(intOf c).toNat)
  case atStart=>exact⟨0,_,aaL _,rfl,rfl,fun i x h=>by omega,zZ.out,aK.out⟩
  case round=>
   obtain⟨k,L,hk,rfl,hL,hin,uA,cR⟩:=hrel;have Xo:=ζ uA;have mC:=ζ cR;have HL:=ζ hL;have zW:=ζ hin;have fZ:=uA.lt;obtain⟨g0,g1⟩:=cR.cells;have hsx:=cR.size;by_cases hlt:k<q
   .have aX:(k:Int)<(q:Int):=by omega
    have hk0:(0:Int)<=(k:Int):=by omega
    have hkl:k<l.length:=by rw[HQ.out];exact hlt
    obtain⟨x,hx⟩:∃x,l[k]? =some x:=⟨_,aaC hkl⟩;obtain⟨b,o,rfl,c0⟩:=(Lt.out.later cR.low) k x hx;have hbl:b<wr.heap.size:=block_lt_of_cell c0;have HX:=ζ hx;clear hin hx cR;by_cases mX:0<=x/\x<(es.length:Int)
    .obtain⟨xv,rfl⟩:∃v:Nat,x=(v:Int):=⟨x.toNat,by omega⟩
     have hx0:(0:Int)<=(xv:Int):=mX.1;have hx1:(xv:Int)<(es.length:Int):=mX.2;obtain⟨y,hy⟩:∃y,L[xv]? =some y:=⟨_,aaC (by rw[hL,Ed.gN];omega)⟩;have y0:=uA.cell hy;have yf:=uA.free xv;have Xw:=ζ (uA.set xv true);have YY:=ζ mX
     have Xm:Hid (mL w n ao cap es (wr.setCell ⟨w1.heap.size,xv,none⟩ (.bool true))):=
      ⟨mC.out.low.setCell (by simp;omega) _,(heap_setCell_other _ ⟨w1.heap.size,xv,none⟩ _ _ (by simp;omega)).trans mC.out.box,(heap_setCell_other _ ⟨w1.heap.size,xv,none⟩ _ _ (by simp;omega)).trans mC.out.res⟩
     clear uA hL hy mX;go_wp2_with (go_at_call 142;refine(Gy hx0 hx1 _).mono ?_;rintro e w2 ⟨rfl,rfl⟩);go_roundw
     case rel=>
      refine⟨k+1,_,by omega,by go_num,?_,fun i z hi hz=> ?_,Xw.out,Xm.out⟩
      .have e:l.getD k 0=(xv:Int):=by rw[aaI,HX.out];rfl
       show _=(Ed.zz es.length l k).set _ _;rw[e,<-HL.out];rfl
      .by_cases hik:i=k
       .subst hik
        rw[HX.out] at hz;cases hz;exact YY.out
       .exact zW.out i z (by omega) hz
     case measure=>simp[intOf];omega
    .have hr:Ed.sub n es l=(0,[],2):=by
      unfold Ed.sub;rw[if_neg (by rw[HV.out];simp),if_pos (fun h=>mX (h x (aaG HX.out)))]
     have HR:=ζ hr;have WA:Hid (x<0\/(es.length:Int)<=x):=ζ (by omega);clear uA hL hr mX
     go_wp2_with (first
      |(go_at_call 142;refine(Kp WA.out _).mono ?_;rintro e w2 ⟨rfl,rfl⟩)
      |(go_at_call 141;refine(Wp.out _ _).mono ?_;rintro e w2 ⟨rfl,hb⟩;have aC:=ζ (mC.out.later hb);clear hb;obtain⟨r0,r1⟩:=aC.out.BA;have f0:=aC.out.free 0;have f1:=aC.out.free 1))
     obtain⟨hb,s0,s1⟩:=aC.out.store (.int .i64 0) (.slice none 0 0);refine bodyPost_ret (v:= .tuple #[.agg #[.int .i64 0,.slice none 0 0],.int .i64 2]) (by simp[results,results97,go_sem,s0,s1]) rfl ?_;rw[HR.out];exact⟨_,rfl,aL.nil _ _,hb⟩
   .have hd:¬((k:Int)<(q:Int)):=by omega
    have UZ:k=l.length:=by rw[HQ.out];omega
    have hr:Ed.sub n es l=(n,Ed.sel L es,0):=by
     unfold Ed.sub;rw[if_neg (by rw[HV.out];simp),if_neg,hL,UZ]
     .rfl
     .intro h
      refine h fun x hx=> ?_
      obtain⟨i,hi,e⟩:=aaT.1 hx;exact hin i x (by omega) (by rw[<-e];exact aaC hi)
    have HR:=ζ hr;have fY:L.length=es.length:=by rw[hL,Ed.gN]
    have hch:=fun W (hb:Below wr.heap.size wr W)=>Fc ao cap w1.heap.size es L W (HE.out.later (mC.out.low.trans (hb.mono mC.out.low.size))) dA (Xo.out.later hb) fY
    have nQ:=ζ hch;clear hch hr hin hL uA cR UZ fY;go_wp2
    go_region_held3 (fun w'=>w'.cell? ⟨w.heap.size,0,none⟩=some (.int .i64 n)/\w'.cell? ⟨w.heap.size,1,none⟩=some (.slice ao es.length cap))
     (first
     |(go_keep;done)
     |(go_split_ands
       (try dsimp only);(repeat' apply And.intro)<;>(refine(hb3.cell (p:=⟨_,_,none⟩) ?_).trans ?_<;>first|assumption|(simp;omega)))
     |(go_split_ands
       (try dsimp only);(repeat' apply And.intro)<;>(refine(hb4.cell (p:=⟨_,_,none⟩) ?_).trans ?_<;>first|assumption|(simp;omega)))
     |(go_split_ands;(try dsimp only);(repeat' apply And.intro)<;>(refine(Hx ?_ _ _).trans ?_<;>first|assumption|omega|(simp;done))))
     ((go_at_call 143;refine(nQ.out _ (aaE _ _).drew).mono ?_;rintro e w3 ⟨v,rfl,hown,QD⟩;have hb3:Below wr.heap.size wr w3:=(aaE wr.heap.size wr).drew.trans QD;have hown2:aL w3 w.heap.size v (Ed.sel L es):=hown.lower (by simp;omega);obtain⟨va,vc,rfl,-,-,-,-⟩:=hown.form;have aK:=ζ (mC.out.later hb3);obtain⟨r0,r1⟩:=aK.out.BA;have f0:=aK.out.free 0;have f1:=aK.out.free 1))
    have fP:=ζ hown2;have zh:=ζ (hown.far (b:=w.heap.size+1) (by simp;omega));clear hown2 hown hb3 QD;go_wp2;obtain⟨hb,s0,s1⟩:=aK.out.store (.int .i64 n) (.slice va (Ed.sel L es).length vc);refine bodyPost_ret (v:= .tuple #[.agg #[.int .i64 n,.slice va (Ed.sel L es).length vc],.int .i64 0]) (by simp[results,results97,go_sem,s0,s1]) rfl ?_;rw[HR.out];exact⟨_,rfl,J5 fP.out zh.out _ _,hb⟩
end
section
open Go.RowKit
theorem mM {ops:Array Oper} {rest:List Oper} {o:Oper} {a:Act} {Q:Exit->Act->World->Prop} (hgd:o.guard=none) (s x:Operand)
 (ho:o.op= .call { callee:= .builtin .append,args:= #[s,x],argTypes:= #[55,55] }) (W:World) (B:Nat) (v:Value) (l xs:List Int) (hown:av W B v l) (xo:Option Addr) (xn xc:Nat) (hx0:tC W xo xn xc xs)
 (hB:B<=W.heap.size) (hl:l.length+xs.length<=17592186044000) (hs:a.eval s=v) (hx:a.eval x= .slice xo xn xc)
 (h:∀v' w',av w' B v' (l++xs)->Below B W w'->wpList Tryz.prog ops Q rest (a.put o.dst v') w'):
 wpList Tryz.prog ops Q (o::rest) a W:=by
 obtain⟨i0,hi,hz0,hz1,hz2⟩:=info_parts Tryz.ck;rcases xo with _|y
 .obtain⟨rfl,rfl⟩:=hx0.none rfl
  have e:xs=[]:=abo.1 hx0.len;subst e;refine wpList_append_own_none hgd s x 55 ho B 3 i0 1 Tryz.underlying55 hi v l.length (l.map (Value.int .i64)) hs hown hx ?_;exact h v W (by rw[abp];exact hown) (aaE _ _)
 .have hxl:=hx0.len
  refine wpList_append_own W hgd s x 55 ho B 3 i0 (.int .i64 0) 1 8 Tryz.underlying55 hi hz0 hz1 hz2 rfl (by decide) v l.length (l.map (Value.int .i64)) hs hown y xn xc (xs.map (Value.int .i64)) hx (by rw[aaP,hx0.len];omega) ?_ (ints_oneCell .i64 _) (by unfold maxLen;omega) (by omega) hB ?_
  .intro j u hj
   rw[aaY] at hj;cases xN:xs[j]? with
   |none=>rw[xN] at hj;cases hj
   |some z=>
    rw[xN] at hj;obtain rfl:=aaQ hj;obtain⟨b,o',e,hc⟩:=hx0.ints j z xN;cases e;have ea:((⟨b,o',none⟩:Addr).add j)=⟨b,o'+j,none⟩:=by
     by_cases h0:j=0<;>simp[Addr.add,h0]
    rw[ea];exact hc
  .intro v' w' hown' hg _
   refine h v' w' ?_ ((aaE B W).grown hg hB (fun b hb=>(aaJ hown b hb).1));unfold av;rw[aaN,abh,hxl];exact hown'
end
section
open Go.Proofs.Tryz
open Go.RowKit
theorem FZ (n:Nat) (w:World) (h0:0<n) (hn:n<=1000):
 Calls prog 137 #[.slice none 0 0,.int .i64 (n:Int)] w fun e w'=>∃c,e= .returned (.slice (some ⟨w.heap.size,0,none⟩) 0 c)/\av w' w.heap.size (.slice (some ⟨w.heap.size,0,none⟩) 0 c) []/\Below w.heap.size w w':=by
 obtain⟨i0,hi,hz0,hz1,hz2⟩:=info_parts Tryz.ck;have hap:∀ty,(Builtin.append_ #[55,3] ty #[.slice none 0 0,.int .i64 (n:Int)]).run prog w= .ok (.slice (some ⟨w.heap.size,0,none⟩) n (grownCap w n 0 3)) (w.drew.alloc (.cells (Builtin.zeroCells (Value.int .i64 0).cells n++Builtin.zeroCells (Value.int .i64 0).cells (grownCap w n 0 3-n)) 3)):=fun ty=>
  Lib.run_append_nil_zeros w 55 3 ty 3 i0 (.int .i64 0) .i64 .i64 Tryz.underlying55 Tryz.underlying3 hi hz0 n h0 (by omega) (by omega) (by rw[hz2];omega)
 have qd:=grownCap_ge w n 0 3;have Nh:=grownCap_le_maxLen w n 0 3 (by unfold maxLen;omega);obtain⟨G,hG⟩:∃G,grownCap w n 0 3=G:=⟨_,rfl⟩;rw[hG] at hap qd Nh;obtain⟨Z,hZ⟩:∃Z,Builtin.zeroCells (Value.int .i64 0).cells n++Builtin.zeroCells (Value.int .i64 0).cells (G-n)=Z:=⟨_,rfl⟩;have Vz:Z.size=G:=by
  rw[<-hZ];simp[Builtin.zeroCells,Value.cells];omega
 rw[hZ] at hap;have HZS:=ζ Vz;have hm:G<=9223372036854775807:=by unfold maxLen at Nh;exact Nh
 have k1:¬((n:Int)<0):=by omega
 have k2:(0:Int)<(n:Int):=by omega
 have k3:IntKind.i64.wrap (n:Int)=(n:Int):=by rw[aaK];omega
 have k4:(0:Int)<=(G:Int):=by omega
 have HF:Hid (av (w.drew.alloc (.cells Z 3)) w.heap.size (.slice (some ⟨w.heap.size,0,none⟩) 0 G) []/\Below w.heap.size w (w.drew.alloc (.cells Z 3))):=by
  refine ζ ⟨⟨by simp,.inr ⟨w.heap.size,G,Z,rfl,aaD _,heap_alloc_new w.drew _,aaL _,Nh,by omega,by simp⟩⟩,((aaE w.heap.size w).drew).alloc (aaD _) _⟩
 clear hZ Vz hG qd Nh;go_enter func137,ntmps137;go_wp2_with (at_builtin;refine Lib.wpList_append_run _ rfl _ _ _ _ rfl _ _ rfl rfl _ _ (hap _) ?_)
 all_goals (go_ret;exact⟨G,rfl,HF.out.1,HF.out.2⟩)
def XB (l1 l2:List Int) (w:World) (e:Ending) (w':World):Prop:=∃v,e= .returned v/\av w' w.heap.size v (l1++l2)/\Below w.heap.size w w'
theorem Bk (c:Nat) (a1 a2:Option Addr) (n1 n2 c1 c2:Nat) (l1 l2:List Int) (w:World) (h1:w.cell? ⟨c,0,none⟩=some (.slice a1 n1 c1)) (h2:w.cell? ⟨c,1,none⟩=some (.slice a2 n2 c2)) (sU:tC w a1 n1 c1 l1) (hl2:tC w a2 n2 c2 l2) (h0:0<n1+n2) (hn:n1+n2<=1000):
 Calls prog 91 #[.slice (some ⟨c,0,none⟩) 2 2] w (XB l1 l2 w):=by
 have Tq:=ζ (FZ (n1+n2) w h0 hn);have yY:=ζ sU;have nP:=ζ hl2;have H1:=ζ h1;have H2:=ζ h2;have s1:IntKind.i64.wrap (n1:Int)=(n1:Int):=by rw[aaK];omega
 have s2:IntKind.i64.wrap ((n1:Int)+(n2:Int))=(n1:Int)+(n2:Int):=by rw[aaK];omega
 have s3:decide ((n1:Int)<0)=false:=by simp
 have s4:decide ((n1:Int)+(n2:Int)<0)=false:=by simp;omega
 have NQ:Hid (((n1+n2:Nat):Int)=(n1:Int)+(n2:Int)):=by show _=_;omega
 clear sU hl2;go_enter func91,ntmps91;go_wp2;go_loopw [3,11] (fun sv cv wr=>wr=w/\((cv= .int .i64 0/\sv= .int .i64 0)\/(cv= .int .i64 1/\sv= .int .i64 (n1:Int))\/(cv= .int .i64 2/\sv= .int .i64 ((n1:Int)+(n2:Int))))) (fun _ cv _=>2-(intOf cv).toNat)
 case atStart=>exact⟨rfl,.inl ⟨rfl,rfl⟩⟩
 case round=>
  obtain⟨hwr,fq⟩:=hrel;obtain rfl:=hwr.symm;clear hwr;rcases fq with ⟨rfl,rfl⟩|⟨rfl,rfl⟩|⟨rfl,rfl⟩
  .go_wp2
   go_roundw
   case rel=>exact⟨by first|rfl|trivial,.inr (.inl ⟨by first|rfl|go_num,by first|rfl|(simp;done)⟩)⟩
   case measure=>simp[intOf]
  .go_wp2
   go_roundw
   case rel=>exact⟨by first|rfl|trivial,.inr (.inr ⟨by first|rfl|go_num,by first|rfl|(simp;done)⟩)⟩
   case measure=>simp[intOf]
  .go_wp2_with (go_at_call 137;rw[<-NQ.out];refine Tq.out.mono ?_;refine aaH ?_)
   refine ζ ?_;rintro e w1 ⟨cg,rfl,ho1,hb1⟩;have NX:=ζ ho1;have aN:=ζ hb1;clear ho1 hb1 h1 h2;go_wp2;go_loopw [6,27] (fun v cv wr=>Below w.heap.size w wr/\((cv= .int .i64 0/\av wr w.heap.size v [])\/(cv= .int .i64 1/\av wr w.heap.size v l1)\/(cv= .int .i64 2/\av wr w.heap.size v (l1++l2)))) (fun _ cv _=>2-(intOf cv).toNat)
   case atStart=>exact⟨aN.out,.inl ⟨rfl,NX.out⟩⟩
   case round=>
    obtain⟨hb,fq⟩:=hrel;obtain⟨U,rfl⟩:∃U,U=wr:=⟨wr,rfl⟩;have HB:=ζ hb;have hs:=hb.size;have c1':=(hb.cell (p:=⟨c,0,none⟩) (block_lt_of_cell H1.out)).trans H1.out;have c2':=(hb.cell (p:=⟨c,1,none⟩) (block_lt_of_cell H2.out)).trans H2.out;have S0:=ζ (yY.out.later hb);have Y6:=ζ (nP.out.later hb);have g1:=yY.out.len;have g2:=nP.out.len;clear hb;rcases fq with ⟨rfl,ho⟩|⟨rfl,ho⟩|⟨rfl,ho⟩
    .have HO:=ζ ho
     have hlen:([]:List Int).length+l1.length<=17592186044000:=by simp;omega
     clear ho g1 g2;go_wp2_with (at_builtin;refine mM rfl _ _ rfl _ w.heap.size _ [] l1 HO.out a1 n1 c1 S0.out hs hlen rfl rfl ?_;refine aaH ?_);refine ζ ?_;intro v' w3 hr3 hb3;have mz:=ζ hr3;have aK:=ζ (HB.out.trans hb3);clear hr3 hb3;go_wp2;go_roundw
     case rel=>exact⟨aK.out,.inr (.inl ⟨by first|rfl|go_num,by have:=mz.out;simpa using this⟩)⟩
     case measure=>simp[intOf]
    .have HO:=ζ ho
     have hlen:l1.length+l2.length<=17592186044000:=by omega
     clear ho g1 g2;go_wp2_with (at_builtin;refine mM rfl _ _ rfl _ w.heap.size _ l1 l2 HO.out a2 n2 c2 Y6.out hs hlen rfl rfl ?_;refine aaH ?_);refine ζ ?_;intro v' w3 hr3 hb3;have mz:=ζ hr3;have aK:=ζ (HB.out.trans hb3);clear hr3 hb3;go_wp2;go_roundw
     case rel=>exact⟨aK.out,.inr (.inr ⟨by first|rfl|go_num,mz.out⟩)⟩
     case measure=>simp[intOf]
    .have HO:=ζ ho
     clear ho g1 g2;go_wp2;go_ret;exact⟨_,rfl,HO.out,HB.out⟩
end
end Go.Proofs.YtdbjpbjocmcpkaaGreatDoor
