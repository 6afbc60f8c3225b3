import Derived.Lib.AppendZerosOnto
import Derived.Test.YtdbjpbjocmcpkaaGreatDoorMj12
import Derived.Test.YtdbjpbjocmcpkaaGreatDoorMj15
import Derived.Maps.OwnSet
import Derived.DeepKeys4
set_option maxHeartbeats 8000000
set_option maxRecDepth 100000
namespace Go.Proofs.YtdbjpbjocmcpkaaGreatDoor
section
open Go.RowKit Go.Sort
namespace Ku
def zu (dl:List Int) (m:Nat):Int:=(m:Int)-((cQ dl 0 m).length:Int)-((cQ dl 2 m).length:Int)
def M7 (dl:List Int) (m:Nat) (R:List (List Int)):Prop:=(cQ dl 4 m).length=5/\zu dl m=5/\R.length=10
def Bo (dl:List Int) (m:Nat) (R:List (List Int)):Prop:=(cQ dl 3 m).length=6/\zu dl m=6/\R.length=9
def fk (kd:Nat) (i:Nat):Nat->List (Nat×Nat)
 |0=>[]
 |j+1=>if i<j/\¬(kd=2/\(3<=i\/j<3)) then fk kd i j++[(i,j)] else fk kd i j
def out (kd L:Nat):Nat->List (Nat×Nat)
 |0=>[]
 |i+1=>out kd L i++fk kd i L
theorem Ls (kd i:Nat):∀{j},j<=i+1->fk kd i j=[]
 |0,_=>rfl
 |j+1,h=>by
  unfold fk;rw[if_neg (by omega)];exact Ls kd i (by omega)
theorem Lr {kd i j:Nat} (h:i<j) (hs:¬(kd=2/\(3<=i\/j<3))):fk kd i (j+1)=fk kd i j++[(i,j)]:=if_pos ⟨h,hs⟩
theorem XZ {kd i j:Nat} (hs:kd=2/\(3<=i\/j<3)):fk kd i (j+1)=fk kd i j:=if_neg fun h=>h.2 hs
def way (R:List (List Int)) (br:List Int) (p:Nat×Nat):List Int×Nat:=cI R (gI br p.1) (gI br p.2) R.length
def Wb (B:Nat) (v:Value):Prop:=∀b,v.ownBlock=some b->B<=b
def yL (B:Nat) (w:World) (v:Value) (ls:List (List Int)):Prop:=∃ao c,v= .slice ao ls.length c/\∀(k:Nat) (l:List Int),ls[k]? =some l->∃b o x,ao=some ⟨b,o,none⟩/\B<=b/\w.cell? ⟨b,o+k,none⟩=some x/\fW w x l/\Wb B x
theorem yL.sees {B:Nat} {w:World} {v:Value} {ls:List (List Int)} (h:yL B w v ls):qV w v ls:=by
 obtain⟨ao,c,e,h⟩:=h;exact⟨ao,c,e,fun k l hl=>by
  obtain⟨b,o,x,h1,_,h2,h3,_⟩:=h k l hl;exact⟨b,o,x,h1,h2,h3⟩⟩
def Found (B:Nat) (kd:Nat) (R:List (List Int)) (br:List Int) (e:Ending) (w':World):Prop:=
 ((∃p∈out kd br.length br.length,(way R br p).2≠1)/\e= .returned (.tuple #[.agg #[.int .i64 0,.slice none 0 0,.slice none 0 0],.bool false,.int .i64 0]))\/
 ((∀p∈out kd br.length br.length,(way R br p).2=1)/\∃v1 v2,e= .returned (.tuple #[.agg #[.int .i64 (kd:Int),v1,v2],.bool (((out kd br.length br.length).length:Int)==(R.length:Int)),.int .i64 0])/\
   fW w' v1 br/\Wb B v1/\yL B w' v2 ((out kd br.length br.length).map fun p=>(way R br p).1))
def EI (n:Int) (es:List (Int×Int)) (w:World) (e:Ending) (w':World):Prop:=
 ((Si.valid n es=false/\e= .returned (.tuple #[.agg #[.int .i64 0,.slice none 0 0,.slice none 0 0],.bool false,.int .i64 1]))\/
 ∃(m:Nat) (hv:Si.Val n es),n=(m:Int)/\
  ((¬M7 (Si.aS n es) m (rows es hv es.length)/\¬Bo (Si.aS n es) m (rows es hv es.length)/\e= .returned (.tuple #[.agg #[.int .i64 0,.slice none 0 0,.slice none 0 0],.bool false,.int .i64 0]))\/
   (M7 (Si.aS n es) m (rows es hv es.length)/\Found w.heap.size 1 (rows es hv es.length) (cQ (Si.aS n es) 4 m) e w')\/
   (Bo (Si.aS n es) m (rows es hv es.length)/\Found w.heap.size 2 (rows es hv es.length) (fT (rows es hv es.length) (cQ (Si.aS n es) 3 m) 6++jJ (rows es hv es.length) (cQ (Si.aS n es) 3 m) 6) e w')))/\Below w.heap.size w w'
end Ku
namespace Ku
theorem RR (l:List Int) (k:Nat):(cQ l 0 k).length+(cQ l 2 k).length+(cQ l 3 k).length+(cQ l 4 k).length<=k:=by
 induction k with
 |zero=>simp[cQ]
 |succ k ih=>
  have e:∀d,(cQ l d (k+1)).length=(cQ l d k).length+if gI l k=d then 1 else 0:=fun d=>by
   show(if gI l k=d then cQ l d k++[(k:Int)] else cQ l d k).length=_
   split<;>simp
  rw[e 0,e 2,e 3,e 4]
  repeat' split
  all_goals omega
theorem EA (ls:List (List Int)) (x y:Int) (h:∀l∈ls,1<=l.length):∀k,k<=ls.length->(cI ls x y k).2≠0->(cI ls x y k).1≠[]
 |0,_,h0=>absurd rfl h0
 |k+1,hk,h0=>by
  obtain⟨l,hl⟩:∃l,ls[k]? =some l:=⟨_,aaE (by omega)⟩;have h1:=h l (aaJ hl);cases hh:hit l x y with
  |none=>
   rw[wK hl hh] at h0 ⊢;exact EA ls x y h k (by omega) h0
  |some r=>
   rw[wJ hl hh];unfold hit at hh
   split at hh
   .cases hh
    exact aeh h1
   .split at hh
    .cases hh
     exact aeh (by rw[acm];exact h1)
    .cases hh
theorem fW.lt {w:World} {v:Value} {l:List Int} (h:fW w v l) (hl:l≠[]) {b:Nat} (hb:v.ownBlock=some b):b<w.heap.size:=by
 obtain⟨a,c,rfl,hi⟩:=h;obtain⟨x,hx⟩:∃x,l[0]? =some x:=⟨_,aaE (ack.2 hl)⟩;obtain⟨b',o,rfl,hc⟩:=hi 0 x hx;cases hb;exact block_lt_of_cell hc
section
end
end Ku
theorem bW {fn:Func} {P:Program} {p q r:Tmp} (h:fn.results= #[.cell p 82,.tmp q,.tmp r]) (hP:P=Tryz.prog) (tmps:Array Value) (w:World) (b:Nat) (x y z u v:Value) (hp:tmps.getD p undef= .pointer (some ⟨b,0,none⟩)) (hq:tmps.getD q undef=u) (hr:tmps.getD r undef=v) (h0:w.cell? ⟨b,0,none⟩=some x) (h1:w.cell? ⟨b,1,none⟩=some y) (h2:w.cell? ⟨b,2,none⟩=some z):(results fn tmps).run P w= .ok (.tuple #[.agg #[x,y,z],u,v]) w:=by
 subst hP;have hp':tmps[p]?.getD undef= .pointer (some ⟨b,0,none⟩):=by simpa using hp
 have hq':tmps[q]?.getD undef=u:=by simpa using hq
 have hr':tmps[r]?.getD undef=v:=by simpa using hr
 simp[results,h,go_sem,hp',hq',hr',h0,h1,h2]
theorem az {w:World} {b:Nat} {s t u:Value} (hs:w.cell? ⟨b,0,none⟩=some s) (ht:w.cell? ⟨b,1,none⟩=some t) (hu:w.cell? ⟨b,2,none⟩=some u) (x y z:Value):(((w.setCell ⟨b,0,none⟩ x).setCell ⟨b,1,none⟩ y).setCell ⟨b,2,none⟩ z).cell? ⟨b,0,none⟩=some x/\(((w.setCell ⟨b,0,none⟩ x).setCell ⟨b,1,none⟩ y).setCell ⟨b,2,none⟩ z).cell? ⟨b,1,none⟩=some y/\(((w.setCell ⟨b,0,none⟩ x).setCell ⟨b,1,none⟩ y).setCell ⟨b,2,none⟩ z).cell? ⟨b,2,none⟩=some z:=by
 refine⟨?_,?_,?_⟩<;>simp[go_sem,hs,ht,hu]
theorem EB {w:World} {b i:Nat} {s:Value} (h:w.cell? ⟨b,i,none⟩=some s) (ob:Obj):(w.alloc ob).cell? ⟨b,i,none⟩=some s:=by
 rw[abF (w:=w) (a:=⟨b,i,none⟩) (heap_alloc_old w ob (block_lt_of_cell h))];exact h
theorem bX {B:Nat} {w W:World} {b:Nat} (h:Below B w W) (hb:B<=b) (x y z:Value):Below B w (((W.setCell ⟨b,0,none⟩ x).setCell ⟨b,1,none⟩ y).setCell ⟨b,2,none⟩ z):=
 ((h.setCell (p:=⟨b,0,none⟩) hb _).setCell (p:=⟨b,1,none⟩) hb _).setCell (p:=⟨b,2,none⟩) hb _
end
section
open Go.RowKit
theorem rS {ops:Array Oper} {rest:List Oper} {o:Oper} {a:Act} {Q:Exit->Act->World->Prop} (hgd:o.guard=none) (s x:Operand)
 (ho:o.op= .call { callee:= .builtin .append,args:= #[s,x],argTypes:= #[55,55] }) (W:World) (B:Nat) (v:Value) (l xs:List Int) (hown:ak W B v l) (xo:Option Addr) (xn xc:Nat) (hx0:EL W xo xn xc xs)
 (hB:B<=W.heap.size) (hl:l.length+xs.length<=17592186044000) (hs:a.eval s=v) (hx:a.eval x= .slice xo xn xc)
 (h:∀v' w',ak w' B v' (l++xs)->Below B W w'->wpList Tryz.prog ops Q rest (a.put o.dst v') w'):
 wpList Tryz.prog ops Q (o::rest) a W:=by
 obtain⟨i0,hi,hz0,hz1,hz2⟩:=info_parts Tryz.cL;rcases xo with _|y
 .obtain⟨rfl,rfl⟩:=hx0.none rfl
  have e:xs=[]:=abY.1 hx0.len;subst e;refine wpList_append_own_none hgd s x 55 ho B 3 i0 1 Tryz.underlying55 hi v l.length (l.map (Value.int .i64)) hs hown hx ?_;exact h v W (by rw[abP];exact hown) (aaG _ _)
 .have hxl:=hx0.len
  refine wpList_append_own W hgd s x 55 ho B 3 i0 (.int .i64 0) 1 8 Tryz.underlying55 hi hz0 hz1 hz2 rfl (by decide) v l.length (l.map (Value.int .i64)) hs hown y xn xc (xs.map (Value.int .i64)) hx (by rw[aa3,hx0.len];omega) ?_ (ints_oneCell .i64 _) (by unfold maxLen;omega) (by omega) hB ?_
  .intro j u hj
   rw[abj] at hj;cases hlj:xs[j]? with
   |none=>rw[hlj] at hj;cases hj
   |some z=>
    rw[hlj] at hj;obtain rfl:=aa9 hj;obtain⟨b,o',e,hc⟩:=hx0.ints j z hlj;cases e;have ea:((⟨b,o',none⟩:Addr).add j)=⟨b,o'+j,none⟩:=by
     by_cases h0:j=0<;>simp[Addr.add,h0]
    rw[ea];exact hc
  .intro v' w' hown' hg _
   refine h v' w' ?_ ((aaG B W).grown hg hB (fun b hb=>(aaO hown b hb).1));unfold ak;rw[aaZ,abt,hxl];exact hown'
end
section
open Go.Proofs.Tryz
open Go.RowKit
theorem NB (n:Nat) (w:World) (h0:0<n) (hn:n<=1000):
 Calls prog 137 #[.slice none 0 0,.int .i64 (n:Int)] w fun e w'=>∃c,e= .returned (.slice (some ⟨w.heap.size,0,none⟩) 0 c)/\ak w' w.heap.size (.slice (some ⟨w.heap.size,0,none⟩) 0 c) []/\Below w.heap.size w w':=by
 obtain⟨i0,hi,hz0,hz1,hz2⟩:=info_parts Tryz.cL;have hap:∀ty,(Builtin.append_ #[55,3] ty #[.slice none 0 0,.int .i64 (n:Int)]).run prog w= .ok (.slice (some ⟨w.heap.size,0,none⟩) n (grownCap w n 0 3)) (w.drew.alloc (.cells (Builtin.zeroCells (Value.int .i64 0).cells n++Builtin.zeroCells (Value.int .i64 0).cells (grownCap w n 0 3-n)) 3)):=fun ty=>
  Lib.run_append_nil_zeros w 55 3 ty 3 i0 (.int .i64 0) .i64 .i64 Tryz.underlying55 Tryz.underlying3 hi hz0 n h0 (by omega) (by omega) (by rw[hz2];omega)
 have pT:=grownCap_ge w n 0 3;have Jo:=grownCap_le_maxLen w n 0 3 (by unfold maxLen;omega);obtain⟨G,hG⟩:∃G,grownCap w n 0 3=G:=⟨_,rfl⟩;rw[hG] at hap pT Jo;obtain⟨Z,hZ⟩:∃Z,Builtin.zeroCells (Value.int .i64 0).cells n++Builtin.zeroCells (Value.int .i64 0).cells (G-n)=Z:=⟨_,rfl⟩;have hZs:Z.size=G:=by
  rw[<-hZ];simp[Builtin.zeroCells,Value.cells];omega
 rw[hZ] at hap;have HZS:=ζ hZs;have hm:G<=9223372036854775807:=by unfold maxLen at Jo;exact Jo
 have k1:¬((n:Int)<0):=by omega
 have k2:(0:Int)<(n:Int):=by omega
 have k3:IntKind.i64.wrap (n:Int)=(n:Int):=by rw[aaK];omega
 have k4:(0:Int)<=(G:Int):=by omega
 have HF:Hid (ak (w.drew.alloc (.cells Z 3)) w.heap.size (.slice (some ⟨w.heap.size,0,none⟩) 0 G) []/\Below w.heap.size w (w.drew.alloc (.cells Z 3))):=by
  refine ζ ⟨⟨by simp,.inr ⟨w.heap.size,G,Z,rfl,aaF _,heap_alloc_new w.drew _,aaR _,Jo,by omega,by simp⟩⟩,((aaG w.heap.size w).drew).alloc (aaF _) _⟩
 clear hZ hZs hG pT Jo;go_enter func137,ntmps137;go_wp2_with (at_builtin;refine Lib.wpList_append_run _ rfl _ _ _ _ rfl _ _ rfl rfl _ _ (hap _) ?_)
 all_goals (go_ret;exact⟨G,rfl,HF.out.1,HF.out.2⟩)
def ahy (l1 l2:List Int) (w:World) (e:Ending) (w':World):Prop:=∃v,e= .returned v/\ak w' w.heap.size v (l1++l2)/\Below w.heap.size w w'
theorem Ia (c:Nat) (a1 a2:Option Addr) (n1 n2 c1 c2:Nat) (l1 l2:List Int) (w:World) (h1:w.cell? ⟨c,0,none⟩=some (.slice a1 n1 c1)) (h2:w.cell? ⟨c,1,none⟩=some (.slice a2 n2 c2)) (nR:EL w a1 n1 c1 l1) (hl2:EL w a2 n2 c2 l2) (h0:0<n1+n2) (hn:n1+n2<=1000):
 Calls prog 91 #[.slice (some ⟨c,0,none⟩) 2 2] w (ahy l1 l2 w):=by
 have jQ:=ζ (NB (n1+n2) w h0 hn);have lG:=ζ nR;have uQ:=ζ hl2;have H1:=ζ h1;have H2:=ζ h2;have s1:IntKind.i64.wrap (n1:Int)=(n1:Int):=by rw[aaK];omega
 have s2:IntKind.i64.wrap ((n1:Int)+(n2:Int))=(n1:Int)+(n2:Int):=by rw[aaK];omega
 have s3:decide ((n1:Int)<0)=false:=by simp
 have s4:decide ((n1:Int)+(n2:Int)<0)=false:=by simp;omega
 have Wu:Hid (((n1+n2:Nat):Int)=(n1:Int)+(n2:Int)):=by show _=_;omega
 clear nR hl2;go_enter func91,ntmps91;go_wp2;go_loopw [3,11] (fun sv cv wr=>wr=w/\((cv= .int .i64 0/\sv= .int .i64 0)\/(cv= .int .i64 1/\sv= .int .i64 (n1:Int))\/(cv= .int .i64 2/\sv= .int .i64 ((n1:Int)+(n2:Int))))) (fun _ cv _=>2-(intOf cv).toNat)
 case atStart=>exact⟨rfl,.inl ⟨rfl,rfl⟩⟩
 case round=>
  obtain⟨hwr,dh⟩:=hrel;obtain rfl:=hwr.symm;clear hwr;rcases dh with ⟨rfl,rfl⟩|⟨rfl,rfl⟩|⟨rfl,rfl⟩
  .go_wp2
   go_roundw
   case rel=>exact⟨by first|rfl|trivial,.inr (.inl ⟨by first|rfl|go_num,by first|rfl|(simp;done)⟩)⟩
   case measure=>simp[intOf]
  .go_wp2
   go_roundw
   case rel=>exact⟨by first|rfl|trivial,.inr (.inr ⟨by first|rfl|go_num,by first|rfl|(simp;done)⟩)⟩
   case measure=>simp[intOf]
  .go_wp2_with (go_at_call 137;rw[<-Wu.out];refine jQ.out.mono ?_;refine aaI ?_)
   refine ζ ?_;rintro e w1 ⟨cg,rfl,ho1,hb1⟩;have BZ:=ζ ho1;have aD:=ζ hb1;clear ho1 hb1 h1 h2;go_wp2;go_loopw [6,27] (fun v cv wr=>Below w.heap.size w wr/\((cv= .int .i64 0/\ak wr w.heap.size v [])\/(cv= .int .i64 1/\ak wr w.heap.size v l1)\/(cv= .int .i64 2/\ak wr w.heap.size v (l1++l2)))) (fun _ cv _=>2-(intOf cv).toNat)
   case atStart=>exact⟨aD.out,.inl ⟨rfl,BZ.out⟩⟩
   case round=>
    obtain⟨hb,dh⟩:=hrel;obtain⟨U,rfl⟩:∃U,U=wr:=⟨wr,rfl⟩;have HB:=ζ hb;have hs:=hb.size;have c1':=(hb.cell (p:=⟨c,0,none⟩) (block_lt_of_cell H1.out)).trans H1.out;have c2':=(hb.cell (p:=⟨c,1,none⟩) (block_lt_of_cell H2.out)).trans H2.out;have HU1:=ζ (lG.out.later hb);have HU2:=ζ (uQ.out.later hb);have g1:=lG.out.len;have g2:=uQ.out.len;clear hb;rcases dh with ⟨rfl,ho⟩|⟨rfl,ho⟩|⟨rfl,ho⟩
    .have HO:=ζ ho
     have hlen:([]:List Int).length+l1.length<=17592186044000:=by simp;omega
     clear ho g1 g2;go_wp2_with (at_builtin;refine rS rfl _ _ rfl _ w.heap.size _ [] l1 HO.out a1 n1 c1 HU1.out hs hlen rfl rfl ?_;refine aaI ?_);refine ζ ?_;intro v' w3 hr3 hb3;have jl:=ζ hr3;have aK:=ζ (HB.out.trans hb3);clear hr3 hb3;go_wp2;go_roundw
     case rel=>exact⟨aK.out,.inr (.inl ⟨by first|rfl|go_num,by have:=jl.out;simpa using this⟩)⟩
     case measure=>simp[intOf]
    .have HO:=ζ ho
     have hlen:l1.length+l2.length<=17592186044000:=by omega
     clear ho g1 g2;go_wp2_with (at_builtin;refine rS rfl _ _ rfl _ w.heap.size _ l1 l2 HO.out a2 n2 c2 HU2.out hs hlen rfl rfl ?_;refine aaI ?_);refine ζ ?_;intro v' w3 hr3 hb3;have jl:=ζ hr3;have aK:=ζ (HB.out.trans hb3);clear hr3 hb3;go_wp2;go_roundw
     case rel=>exact⟨aK.out,.inr (.inr ⟨by first|rfl|go_num,jl.out⟩)⟩
     case measure=>simp[intOf]
    .have HO:=ζ ho
     clear ho g1 g2;go_wp2;go_ret;exact⟨_,rfl,HO.out,HB.out⟩
end
section
open Go.RowKit Go.Sort
theorem Rl (W:World) (o:Obj):(W.alloc o).heap.size=W.heap.size+1:=by simp
theorem MI (ao:Option Addr) (cap g:Nat) (es:List (Int×Int)) (bs:List Bool) (w:World) (he:ah w ao es) (hl:es.length<=4194304) (hb:dH w g bs) (hbl:bs.length=es.length):
 Calls Tryz.prog 143 #[.slice (some ⟨g,0,none⟩) es.length es.length,.slice ao es.length cap] w fun e w'=>∃v,e= .returned v/\aW w' w.heap.size v (Ed.sel bs es)/\Below w.heap.size w w':=by
 have HE:=ζ he;have Xj:=ζ hb;have Gc:=ζ hbl;clear he hb hbl;go_enter Tryz.func143,Tryz.ntmps143;go_wp2;go_loopw [5,10] (fun v c wr=>∃(k:Nat) (L:List (Int×Int)),k<=es.length/\c= .int .i64 k/\L=Ed.sel bs (es.take k)/\aW wr w.heap.size v L/\Below w.heap.size w wr) (fun _ c _=>es.length-(intOf c).toNat)
 case atStart=>exact⟨0,[],aaR _,rfl,by cases bs with|nil=>rfl|cons b _=>cases b<;>rfl,aW.nil _ _,aaG _ _⟩
 case round=>
  obtain⟨k,L,hk,rfl,hL,hrow,hb⟩:=hrel;have jP:=ζ hrow;have HB:=ζ hb;have HL:=ζ hL;have hs0:w.heap.size<=wr.heap.size:=hb.size;have SM:L.length<=k:=by
   rw[hL];refine aa1 (Ed.CN _ _).length_le ?_;rw[abL];omega
  by_cases hlt:k<es.length
  .have aP:(k:Int)<(es.length:Int):=by omega
   have hk0:(0:Int)<=(k:Int):=by omega
   obtain⟨p,hp⟩:∃p,es[k]? =some p:=⟨_,aaE hlt⟩;obtain⟨x,hx⟩:∃x,bs[k]? =some x:=⟨_,aaE (by rw[Gc.out];exact hlt)⟩;obtain⟨b,o,rfl,c0,c1⟩:=(HE.out.later hb) k p hp;have hbl:b<wr.heap.size:=block_lt_of_cell c0;have hB2:=Xj.out.later hb;have d0:=hB2.cell hx;have Ji:=hB2.lt;have HT:=ζ (Ed.Gt bs es k p x hp hx);obtain⟨p1,p2⟩:=p;dsimp only at c0 c1;have HEB:Hid ((wr.alloc (.cells #[.int .i64 p1,.int .i64 p2] 66)).heap[wr.heap.size]? =some (.cells #[.int .i64 p1,.int .i64 p2] 66 (0,0))):=heap_alloc_new wr _;clear hrow hb hL hp hx hB2;cases x with
   |false=>
    go_wp2;go_roundw
    case rel=>exact⟨k+1,L,by omega,by go_num,by rw[HL.out,HT.out];simp,jP.out.alloc _,HB.out.alloc hs0 _⟩
    case measure=>simp[intOf];omega
   |true=>
    have aA:=ζ (HB.out.alloc hs0 (.cells #[.int .i64 p1,.int .i64 p2] 66));go_wp2_with (at_builtin;refine E7 rfl _ _ rfl _ w.heap.size _ L p1 p2 (jP.out.alloc _) (by simp;omega) (by omega) rfl (by first|rfl|(simp only[Rl];rfl)) ?_;refine aaI ?_);refine ζ ?_;intro v' w3 hrow3 hb3;have fK:=ζ hrow3;have aK:=ζ (aA.out.trans hb3);clear hrow3 hb3;go_wp2;go_roundw
    case rel=>exact⟨k+1,_,by omega,by go_num,by rw[HT.out,<-HL.out];simp,fK.out,aK.out⟩
    case measure=>simp[intOf];omega
  .have hd:¬((k:Int)<(es.length:Int)):=by omega
   have hLe:L=Ed.sel bs es:=by rw[hL,abn (by omega)]
   have Af:=ζ hLe;clear hrow hb hL hLe;go_wp2;go_ret;exact⟨_,rfl,by rw[<-Af.out];exact jP.out,HB.out⟩
end
section
open Go.RowKit Go.Sort
structure rQ (w:World) (n:Int) (ao:Option Addr) (cap:Nat) (es:List (Int×Int)) (W:World):Prop where
 low:Below w.heap.size w W
 box:W.heap[w.heap.size]? =some (.cells #[.int .i64 n,.slice ao es.length cap] 24 (0,0))
 res:W.heap[w.heap.size+1]? =some (.cells #[.int .i64 0,.slice none 0 0] 24 (0,0))
section
variable {w W W':World} {n:Int} {ao:Option Addr} {cap:Nat} {es:List (Int×Int)}
theorem rQ.start:rQ w n ao cap es ((w.alloc (.cells #[.int .i64 n,.slice ao es.length cap] 24)).alloc (.cells #[.int .i64 0,.slice none 0 0] 24)):=by
 refine⟨((aaG _ _).alloc (aaF _) _).alloc (by simp) _,?_,?_⟩
 .rw[aa0 _ _ _ (by simp)]
  exact heap_alloc_new w _
 .have:=heap_alloc_new (w.alloc (.cells #[.int .i64 n,.slice ao es.length cap] 24)) (.cells #[.int .i64 0,.slice none 0 0] 24)
  simpa using this
theorem rQ.later (h:rQ w n ao cap es W) (hb:Below W.heap.size W W'):rQ w n ao cap es W':=
 ⟨h.low.trans (hb.mono h.low.size),(hb.block _ (lt_of_block h.box)).trans h.box,(hb.block _ (lt_of_block h.res)).trans h.res⟩
theorem rQ.cells (h:rQ w n ao cap es W):W.cell? ⟨w.heap.size,0,none⟩=some (.int .i64 n)/\W.cell? ⟨w.heap.size,1,none⟩=some (.slice ao es.length cap):=⟨(af h.box).1,(af h.box).2.1⟩
theorem rQ.Iy (h:rQ w n ao cap es W):W.cell? ⟨w.heap.size+1,0,none⟩=some (.int .i64 0)/\W.cell? ⟨w.heap.size+1,1,none⟩=some (.slice none 0 0):=⟨(af h.res).1,(af h.res).2.1⟩
theorem rQ.free (h:rQ w n ao cap es W) (i:Nat):W.frozen? ⟨w.heap.size+1,i,none⟩=false:=by simp[World.frozen?,h.res]
theorem rQ.size (h:rQ w n ao cap es W):w.heap.size+1<W.heap.size:=lt_of_block h.res
theorem Pn {b i r:Nat} (h:b≠r) (x y:Value):((W.setCell ⟨r,0,none⟩ x).setCell ⟨r,1,none⟩ y).cell? ⟨b,i,none⟩=W.cell? ⟨b,i,none⟩:=by
 simp[World.cell?,eE h x y]
theorem RN {B r:Nat} {v:Value} (h:aW W B v es) (hr:v.ownBlock≠some r) (x y:Value):aW ((W.setCell ⟨r,0,none⟩ x).setCell ⟨r,1,none⟩ y) B v es:=by
 refine⟨h.1,?_⟩;rcases h.2 with h|⟨g,cap,cur,e,hgB,hh,hk⟩
 .exact .inl h
 .have hg:g≠r:=fun e'=>hr (by rw[e,e'];rfl)
  refine .inr ⟨g,cap,cur,e,hgB,?_,hk⟩;rw[heap_setCell_other _ ⟨r,1,none⟩ g y hg,heap_setCell_other _ ⟨r,0,none⟩ g x hg];exact hh
theorem rQ.store (h:rQ w n ao cap es W) (x y:Value):Below w.heap.size w ((W.setCell ⟨w.heap.size+1,0,none⟩ x).setCell ⟨w.heap.size+1,1,none⟩ y)/\((W.setCell ⟨w.heap.size+1,0,none⟩ x).setCell ⟨w.heap.size+1,1,none⟩ y).cell? ⟨w.heap.size+1,0,none⟩=some x/\((W.setCell ⟨w.heap.size+1,0,none⟩ x).setCell ⟨w.heap.size+1,1,none⟩ y).cell? ⟨w.heap.size+1,1,none⟩=some y:=by
 obtain⟨r0,r1,-⟩:=af (jA h.res x y);exact⟨(h.low.setCell (by simp) _).setCell (by simp) _,r0,r1⟩
end
end
section
open Go.Proofs.Tryz
open Go.RowKit Go.Sort
theorem S2 (n:Int) (lo:Option Addr) (q lc:Nat) (l:List Int) (ao:Option Addr) (cap:Nat) (es:List (Int×Int)) (w:World) (he:ah w ao es) (hl:es.length<=4611686018427387904) (hq:l.length=q) (hat:aV w lo l) (hlq:q<=4611686018427387904):
 Calls prog 97 #[aB n ao es.length cap,.slice lo q lc] w (ahA (Ed.sub n es l) w):=by
 have HE:=ζ he;have kG:=fun W (hb:Below w.heap.size w W)=>qj n ao cap es W (he.later hb) hl
 have hB0:=rQ.start (w:=w) (n:=n) (ao:=ao) (cap:=cap) (es:=es);unfold aB at kG ⊢;have dM:=ζ kG;have aI:=ζ hB0;have HRF:=ζ Kt;have Am:=ζ hat;have HQ:=ζ hq;clear he kG hB0 hat hq;cases hv:Si.valid n es with
 |false=>
  have hr:Ed.sub n es l=(0,[],1):=by unfold Ed.sub;rw[if_pos hv]
  rw[hr];rw[hv] at dM;clear hv hr;go_enter func97,ntmps97;go_wp2_with (go_at_call 38;refine(dM.out _ aI.out.low).mono ?_;rintro e w1 ⟨rfl,hb⟩;refine aaI ?_);refine ζ ?_;have aD:=ζ (aI.out.later hb);clear hb;obtain⟨g0,g1⟩:=aD.out.cells;have hs1:=aD.out.size;have hs0:w.heap.size<w1.heap.size:=by omega
  go_wp2_with (go_at_call 141;refine(HRF.out _ _).mono ?_;rintro e w2 ⟨rfl,hb⟩;have aA:=ζ (aD.out.later hb);clear hb;obtain⟨r0,r1⟩:=aA.out.Iy;have f0:=aA.out.free 0;have f1:=aA.out.free 1);obtain⟨hb,s0,s1⟩:=aA.out.store (.int .i64 0) (.slice none 0 0);refine bodyPost_ret (v:= .tuple #[.agg #[.int .i64 0,.slice none 0 0],.int .i64 1]) (by simp[results,results97,go_sem,s0,s1]) rfl ?_;exact⟨_,rfl,aW.nil _ _,hb⟩
 |true=>
  have hval:=Si.aL.1 hv;have bV:=hval.few;have hlo:=hval.lo;have hhi:=hval.hi;have cC:=ζ hval;have HV:=ζ hv;rw[hv] at dM;clear hv hval;obtain⟨i0,hi,hz0,hz1,hz2⟩:=info_parts Tryz.OA;go_enter func97,ntmps97;go_wp2_with (go_at_call 38;refine(dM.out _ aI.out.low).mono ?_;rintro e w1 ⟨rfl,hb⟩;refine aaI ?_);refine ζ ?_;have aD:=ζ (aI.out.later hb);clear hb;obtain⟨g0,g1⟩:=aD.out.cells;have hs1:=aD.out.size;have hs0:w.heap.size<w1.heap.size:=by omega
  go_wp2_with (at_make;refine wpList_make_full _ rfl _ _ 237 rfl w1.heap.size 4 i0 (.bool false) 1 Tryz.underlying237 hi hz0 hz1 _ _ _ _ es.length rfl rfl rfl rfl (by rw[hz2];omega) (by unfold maxLen;omega) (aaF _) ?_;refine aaI ?_);refine ζ ?_;intro w3 hrow3 hg3;have Gc:Hid (dH w3 w1.heap.size (List.replicate es.length false)):=by
   refine MS (B:=w1.heap.size) (n:=es.length) ?_;rw[<-RU];simpa using hrow3
  have hb3:Below w1.heap.size w1 w3:=(aaG _ _).grown hg3 (aaF _) (fun j hj=>by cases hj);have aK:=ζ (aD.out.later hb3);clear hrow3 hg3 hb3 g0 g1;go_wp2;go_loopw [21] (fun c wr=>∃(k:Nat) (L:List Bool),k<=q/\c= .int .i64 k/\L=Ed.Fo es.length l k/\(∀(i:Nat) (x:Int),i<k->l[i]? =some x->0<=x/\x<(es.length:Int))/\dH wr w1.heap.size L/\rQ w n ao cap es wr) (fun c _=>q-(intOf c).toNat)
  case atStart=>exact⟨0,_,aaR _,rfl,rfl,fun i x h=>by omega,Gc.out,aK.out⟩
  case round=>
   obtain⟨k,L,hk,rfl,hL,hin,A9,b7⟩:=hrel;have ahh:=ζ A9;have jX:=ζ b7;have HL:=ζ hL;have o7:=ζ hin;have dO:=A9.lt;obtain⟨g0,g1⟩:=b7.cells;have hsx:=b7.size;by_cases hlt:k<q
   .have aP:(k:Int)<(q:Int):=by omega
    have hk0:(0:Int)<=(k:Int):=by omega
    have hkl:k<l.length:=by rw[HQ.out];exact hlt
    obtain⟨x,hx⟩:∃x,l[k]? =some x:=⟨_,aaE hkl⟩;obtain⟨b,o,rfl,c0⟩:=(Am.out.later b7.low) k x hx;have hbl:b<wr.heap.size:=block_lt_of_cell c0;have HX:=ζ hx;clear hin hx b7;by_cases fE:0<=x/\x<(es.length:Int)
    .obtain⟨xv,rfl⟩:∃v:Nat,x=(v:Int):=⟨x.toNat,by omega⟩
     have hx0:(0:Int)<=(xv:Int):=fE.1;have hx1:(xv:Int)<(es.length:Int):=fE.2;obtain⟨y,hy⟩:∃y,L[xv]? =some y:=⟨_,aaE (by rw[hL,Ed.kZ];omega)⟩;have y0:=A9.cell hy;have yf:=A9.free xv;have HA2:=ζ (A9.set xv true);have M8:=ζ fE
     have aha:Hid (rQ w n ao cap es (wr.setCell ⟨w1.heap.size,xv,none⟩ (.bool true))):=
      ⟨jX.out.low.setCell (by simp;omega) _,(heap_setCell_other _ ⟨w1.heap.size,xv,none⟩ _ _ (by simp;omega)).trans jX.out.box,(heap_setCell_other _ ⟨w1.heap.size,xv,none⟩ _ _ (by simp;omega)).trans jX.out.res⟩
     clear A9 hL hy fE;go_wp2_with (go_at_call 142;refine(Ox hx0 hx1 _).mono ?_;rintro e w2 ⟨rfl,rfl⟩);go_roundw
     case rel=>
      refine⟨k+1,_,by omega,by go_num,?_,fun i z hi hz=> ?_,HA2.out,aha.out⟩
      .have e:l.getD k 0=(xv:Int):=by rw[aaL,HX.out];rfl
       show _=(Ed.Fo es.length l k).set _ _;rw[e,<-HL.out];rfl
      .by_cases hik:i=k
       .subst hik
        rw[HX.out] at hz;cases hz;exact M8.out
       .exact o7.out i z (by omega) hz
     case measure=>simp[intOf];omega
    .have hr:Ed.sub n es l=(0,[],2):=by
      unfold Ed.sub;rw[if_neg (by rw[HV.out];simp),if_pos (fun h=>fE (h x (aaJ HX.out)))]
     have HR:=ζ hr;have ET:Hid (x<0\/(es.length:Int)<=x):=ζ (by omega);clear A9 hL hr fE
     go_wp2_with (first
      |(go_at_call 142;refine(Sh ET.out _).mono ?_;rintro e w2 ⟨rfl,rfl⟩)
      |(go_at_call 141;refine(HRF.out _ _).mono ?_;rintro e w2 ⟨rfl,hb⟩;have aA:=ζ (jX.out.later hb);clear hb;obtain⟨r0,r1⟩:=aA.out.Iy;have f0:=aA.out.free 0;have f1:=aA.out.free 1))
     obtain⟨hb,s0,s1⟩:=aA.out.store (.int .i64 0) (.slice none 0 0);refine bodyPost_ret (v:= .tuple #[.agg #[.int .i64 0,.slice none 0 0],.int .i64 2]) (by simp[results,results97,go_sem,s0,s1]) rfl ?_;rw[HR.out];exact⟨_,rfl,aW.nil _ _,hb⟩
   .have hd:¬((k:Int)<(q:Int)):=by omega
    have hkq:k=l.length:=by rw[HQ.out];omega
    have hr:Ed.sub n es l=(n,Ed.sel L es,0):=by
     unfold Ed.sub;rw[if_neg (by rw[HV.out];simp),if_neg,hL,hkq]
     .rfl
     .intro h
      refine h fun x hx=> ?_
      obtain⟨i,hi,e⟩:=abf.1 hx;exact hin i x (by omega) (by rw[<-e];exact aaE hi)
    have HR:=ζ hr;have eB:L.length=es.length:=by rw[hL,Ed.kZ]
    have hch:=fun W (hb:Below wr.heap.size wr W)=>MI ao cap w1.heap.size es L W (HE.out.later (jX.out.low.trans (hb.mono jX.out.low.size))) bV (ahh.out.later hb) eB
    have jq:=ζ hch;clear hch hr hin hL A9 b7 hkq eB;go_wp2
    go_region_held3 (fun w'=>w'.cell? ⟨w.heap.size,0,none⟩=some (.int .i64 n)/\w'.cell? ⟨w.heap.size,1,none⟩=some (.slice ao es.length cap))
     (first
     |(go_keep;done)
     |(go_split_ands
       (try dsimp only);(repeat' apply And.intro)<;>(refine(hb3.cell (p:=⟨_,_,none⟩) ?_).trans ?_<;>first|assumption|(simp;omega)))
     |(go_split_ands
       (try dsimp only);(repeat' apply And.intro)<;>(refine(hb4.cell (p:=⟨_,_,none⟩) ?_).trans ?_<;>first|assumption|(simp;omega)))
     |(go_split_ands;(try dsimp only);(repeat' apply And.intro)<;>(refine(Pn ?_ _ _).trans ?_<;>first|assumption|omega|(simp;done))))
     ((go_at_call 143;refine(jq.out _ (aaG _ _).drew).mono ?_;rintro e w3 ⟨v,rfl,hown,ZX⟩;have hb3:Below wr.heap.size wr w3:=(aaG wr.heap.size wr).drew.trans ZX;have hown2:aW w3 w.heap.size v (Ed.sel L es):=hown.lower (by simp;omega);obtain⟨va,vc,rfl,-,-,-,-⟩:=hown.form;have aK:=ζ (jX.out.later hb3);obtain⟨r0,r1⟩:=aK.out.Iy;have f0:=aK.out.free 0;have f1:=aK.out.free 1))
    have bK:=ζ hown2;have EY:=ζ (hown.far (b:=w.heap.size+1) (by simp;omega));clear hown2 hown hb3 ZX;go_wp2;obtain⟨hb,s0,s1⟩:=aK.out.store (.int .i64 n) (.slice va (Ed.sel L es).length vc);refine bodyPost_ret (v:= .tuple #[.agg #[.int .i64 n,.slice va (Ed.sel L es).length vc],.int .i64 0]) (by simp[results,results97,go_sem,s0,s1]) rfl ?_;rw[HR.out];exact⟨_,rfl,RN bK.out EY.out _ _,hb⟩
end
section
open Go.Proofs.Tryz
open Go.RowKit Go.Sort
def Hf (f:FuncId):Value:= .func (.func f) #[] #[]
def Jt (b:Bool):List Value:=
 [.int .i64 1,Hf 50,.int .i64 181,Hf 51]++
 (if b then [.int .i64 182,Hf 52,.int .i64 183,Hf 53]
 else [.int .i64 184,Hf 54,.int .i64 185,Hf 55])
def Zi (b:Bool) (w:World) (e:Ending) (w':World):Prop:=
 ∃g c,e= .returned (.slice (some ⟨g,0,none⟩) 4 c)/\w.heap.size<=g/\(∀j u,(Jt b)[j]? =some u->w'.cell? ⟨g,j,none⟩=some u)/\Below w.heap.size w w'
theorem Bc {w:World} {g:Nat} {xs:List Value} {ys:Array Value} {t:TypeId} {fr:Nat×Nat} (h:w.heap[g]? =some (.cells (xs.toArray++ys) t fr)):∀j u,xs[j]? =some u->w.cell? ⟨g,j,none⟩=some u:=fun j u hj=>by
 have hl:=(aaH.1 hj).1;have e:(xs.toArray++ys)[j]? =some u:=by
  rw[acN (by simpa using hl)];simpa using hj
 simp[World.cell?,h,e]
theorem Hl {X:World} {A B Z:Array Value} {g:Nat} {t:TypeId} {fr:Nat×Nat} {xs:List Value} (hx:X.heap[g]? =some (.cells (A++(B++Z)) t fr)) (hd:A.toList++B.toList=xs):X.heap[g]? =some (.cells (xs.toArray++Z) t fr):=by
 rw[hx,<-Array.append_assoc]
 congr 3
 apply Array.ext';simpa using hd
theorem vK (w:World) (a b c:Obj):(((w.alloc a).alloc b).alloc c).drew.heap[w.heap.size+1+1]? =some c:=by
 have h:=heap_alloc_new ((w.alloc a).alloc b) c;rw[aa7,aa7] at h;exact h
theorem sR (b:Bool) (w:World):Calls prog 29 #[.bool b] w (Zi b w):=by
 cases b with
 |true=>
  go_enter func29,ntmps29;go_wp2;go_ret;exact⟨_,_,rfl,by omega,Bc (Hl (xs:=Jt true) (vK _ _ _ _) rfl),((((aaG _ _).alloc (aaF _) _).alloc (by simp) _).alloc (by simp;omega) _).drew⟩
 |false=>
  go_enter func29,ntmps29;go_wp2;go_ret;exact⟨_,_,rfl,by omega,Bc (Hl (xs:=Jt false) (vK _ _ _ _) rfl),((((aaG _ _).alloc (aaF _) _).alloc (by simp) _).alloc (by simp;omega) _).drew⟩
end
section
open Go.Proofs.Tryz
open Go.RowKit Go.Sort
theorem CO (p:Int×Int) (w:World):Calls prog 110 #[cM p] w fun e w'=>e= .returned (cM (Si.norm p))/\∃q os',w'=grow (w.drewN q) os':=by
 unfold cM Si.norm;rcases aer p.2 p.1 with h|h
 .have h':¬(p.1<p.2):=by omega
  have e1:min p.1 p.2=p.2:=by omega
  have e2:max p.1 p.2=p.1:=by omega
  rw[e1,e2];go_enter func110,ntmps110;go_wp2;refine bodyPost_ret (v:= .agg #[.int .i64 p.2,.int .i64 p.1]) (by simp[results,results110,go_sem]) rfl ?_;exact⟨rfl,0,_,by rw[alloc_eq_grow,alloc_eq_grow,grow_grow];rfl⟩
 .have e1:min p.1 p.2=p.1:=by omega
  have e2:max p.1 p.2=p.2:=by omega
  rw[e1,e2];rcases aer p.1 p.2 with h'|h'
  .go_enter func110,ntmps110
   go_wp2;refine bodyPost_ret (v:= .agg #[.int .i64 p.1,.int .i64 p.2]) (by simp[results,results110,go_sem]) rfl ?_;exact⟨rfl,0,_,by rw[alloc_eq_grow,alloc_eq_grow,grow_grow];rfl⟩
  .have e3:p.2=p.1:=by omega
   rw[e3];go_enter func110,ntmps110;go_wp2;refine bodyPost_ret (v:= .agg #[.int .i64 p.1,.int .i64 p.1]) (by simp[results,results110,go_sem]) rfl ?_;exact⟨rfl,0,_,by rw[alloc_eq_grow,alloc_eq_grow,grow_grow];rfl⟩
end
section
open Go.Proofs.Tryz
open Go.RowKit Go.Sort
theorem R1 (a b:Int×Int) (w:World):Calls prog 48 #[cM a,cM b] w fun e w'=>e= .returned (.bool (decide (Si.lt a b)))/\∃q os',w'=grow (w.drewN q) os':=by
 unfold cM;by_cases h1:a.1<b.1
 .have hd:decide (Si.lt a b)=true:=by simp[Si.lt,h1]
  rw[hd];go_enter func48,ntmps48;go_wp2;go_ret;exact⟨rfl,0,_,by rw[alloc_eq_grow,alloc_eq_grow,grow_grow];rfl⟩
 .by_cases h2:a.1=b.1
  .by_cases h3:a.2<b.2
   .have hd:decide (Si.lt a b)=true:=by simp[Si.lt,h2,h3]
    rw[hd];go_enter func48,ntmps48;go_wp2;go_ret;exact⟨rfl,0,_,by rw[alloc_eq_grow,alloc_eq_grow,grow_grow];rfl⟩
   .have hd:decide (Si.lt a b)=false:=by simp[Si.lt,h1,h3]
    rw[hd];go_enter func48,ntmps48;go_wp2;go_ret;exact⟨rfl,0,_,by rw[alloc_eq_grow,alloc_eq_grow,grow_grow];rfl⟩
  .have hd:decide (Si.lt a b)=false:=by simp[Si.lt,h1,h2]
   rw[hd];go_enter func48,ntmps48;go_wp2;go_ret;exact⟨rfl,0,_,by rw[alloc_eq_grow,alloc_eq_grow,grow_grow];rfl⟩
theorem sM {w w':World} (h:∃(q:Nat) (os':Array Obj),w'=grow (w.drewN q) os'):Below w.heap.size w w':=by
 obtain⟨q,os',rfl⟩:=h;exact lz w q os'
end
section
open Go.Proofs.Tryz
open Go.RowKit Go.Sort Go.Maps
theorem R7:laidOutB prog=true:=by kernel_rfl
theorem Ko:(66:TypeId)<prog.types.size:=of_decide_eq_true (by kernel_rfl)
theorem Ra:(match prog.underlying 66 with|some (.array _ _)|some (.struct _)=>true|_=>false)=true:=by kernel_rfl
theorem Ou:prog.keyTypeAt 2 66=true:=by kernel_rfl
theorem sA:Keyed prog 66:=Keyed.of_law (deep_law_laid R7 (m:=2) (by omega) Ko Ou Ra)
theorem I5:prog.keyType 66=true:=by kernel_rfl
theorem RJ {a b:Nat} (h:a<b):∃m,b=m+1:=⟨b-1,by omega⟩
theorem Rh:∃m,prog.types.size=m+1:=RJ Ko
theorem Gd (w:World):(zeroValue 189).run prog w= .ok (.agg #[]) w:=by kernel_rfl
def l5 (e:Int×Int):Lit:= .string (keyBytes [.int .i64 e.1,.int .i64 e.2])
theorem om {e:Int×Int} (h:dw e):keyOf prog 66 (cM e)=some (l5 e):=by
 obtain⟨m,hm⟩:=Rh;have w1:=JY h.1;have w2:=JY h.2;unfold keyOf cM l5;simp only[Tryz.underlying66];rw[if_pos (by simp[I5,Value.formed,Tryz.underlying66,Ew]),hm];unfold Program.keyLits;simp only[Tryz.underlying66,Value.cells];rw[if_pos (by rw[Ew];exact⟨rfl,by simp⟩)];simp[Ev,Program.keyLits,Tryz.underlying3,w1,w2]
theorem A3 (e:Int×Int):WideAt.IsKeyLit (l5 e):=by unfold l5;trivial
theorem GZ {a b:Int×Int} (ha:dw a) (hb:dw b) (h:l5 a=l5 b):a=b:=by
 have h1:=om ha;have h2:=om hb;rw[<-h] at h2;have:=sA.inj h1 h2;unfold cM at this;simp at this;exact Prod.ext this.1 this.2
structure fV (D:DataW Unit) (p:Int×Int->Prop) (n:Nat):Prop where
 tidy:Tidy D
 has:∀e,dw e->(Maps.has D (l5 e)=true↔p e)
 size:Maps.size D=n
theorem fV.start:fV (.map []) (fun _=>False) 0:=⟨tidy_empty,fun e _=>by simp[Maps.has],rfl⟩
theorem fV.put {D:DataW Unit} {p:Int×Int->Prop} {n:Nat} (h:fV D p n) {e:Int×Int} (he:dw e) (u:DataW Unit):
 fV (D.put (l5 e) u) (fun x=>p x\/x=e) (if Maps.has D (l5 e) then n else n+1):=by
 refine⟨h.tidy.put (A3 e) u,fun x hx=> ?_,?_⟩
 .by_cases gR:x=e
  .subst gR
   rw[has_put_same h.tidy.isMap (A3 x)];simp
  .rw[has_put_other (fun k=>gR (GZ hx he k))]
   rw[h.has x hx];simp[gR]
 .rw[size_put h.tidy,h.size]
theorem fV.del {D:DataW Unit} {p:Int×Int->Prop} {n:Nat} (h:fV D p n) {e:Int×Int} (he:dw e) (hp:p e):
 ∃m,n=m+1/\fV (D.del (l5 e)) (fun x=>p x/\x≠e) m:=by
 have qE:=size_del (k:=l5 e) h.tidy;rw[if_pos ((h.has e he).2 hp),h.size] at qE;refine⟨Maps.size (D.del (l5 e)),qE.symm,h.tidy.del _,fun x hx=> ?_,rfl⟩;by_cases gR:x=e
 .subst gR
  rw[has_del_same];simp
 .rw[has_del_other (fun k=>gR (GZ hx he k)),h.has x hx]
  simp[gR]
theorem fV.congr {D:DataW Unit} {p q:Int×Int->Prop} {n:Nat} (h:fV D p n) (hpq:∀e,dw e->(p e↔q e)):fV D q n:=
 ⟨h.tidy,fun e he=>(h.has e he).trans (hpq e he),h.size⟩
end
end Go.Proofs.YtdbjpbjocmcpkaaGreatDoor
