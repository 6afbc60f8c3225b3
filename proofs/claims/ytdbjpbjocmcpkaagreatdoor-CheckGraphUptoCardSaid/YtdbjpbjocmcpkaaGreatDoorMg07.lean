import Derived.Test.YtdbjpbjocmcpkaaGreatDoorMg01
set_option maxHeartbeats 8000000
set_option maxRecDepth 100000
namespace Go.Proofs.YtdbjpbjocmcpkaaGreatDoor
section
open Go.RowKit
def pP (w:World) (g:Nat) (l:List (Int×Int)):Prop:=w.heap[g]? =some (.cells (gF l).toArray 66 (0,0))
section
variable {w w':World} {g:Nat} {l:List (Int×Int)}
theorem pP.cells (h:pP w g l) {i:Nat} {p:Int×Int} (hp:l[i]? =some p):w.cell? ⟨g,i*2,none⟩=some (.int .i64 p.1)/\w.cell? ⟨g,i*2+1,none⟩=some (.int .i64 p.2):=by
 obtain⟨h0,h1⟩:=nT l i p hp;unfold pP at h;simp[World.cell?,h,h0,h1]
theorem pP.at (h:pP w g l):ah w (some ⟨g,0,none⟩) l:=fun j p hj=>⟨g,0,rfl,by rw[abI];exact(h.cells hj).1,by rw[abI];exact(h.cells hj).2⟩
end
theorem Tryz.LP:(Tryz.prog.info? 4).map (fun i=>(i.zero,i.size,i.bytes))=some (some (.bool false),1,1):=by kernel_rfl
def cP (w:World) (g:Nat) (l:List Bool):Prop:=w.heap[g]? =some (.cells (l.map Value.bool).toArray 4 (0,0))
section
variable {w w':World} {g:Nat} {l:List Bool}
theorem cP.lt (h:cP w g l):g<w.heap.size:=lt_of_block h
theorem cP.cell (h:cP w g l) {i:Nat} {x:Bool} (hx:l[i]? =some x):w.cell? ⟨g,i,none⟩=some (.bool x):=by
 unfold cP at h;simp[World.cell?,h,hx]
theorem cP.free (h:cP w g l) (i:Nat):w.frozen? ⟨g,i,none⟩=false:=by
 unfold cP at h;simp[World.frozen?,h]
theorem cP.set (h:cP w g l) (i:Nat) (x:Bool):cP (w.setCell ⟨g,i,none⟩ (.bool x)) g (l.set i x):=by
 unfold cP at h ⊢;rw[heap_setCell_same w g i _ _ _ h];simp[List.map_set]
theorem cP.later (h:cP w g l) (hb:Below w.heap.size w w'):cP w' g l:=(hb.block g h.lt).trans h
theorem Kp {B n:Nat} (h:w.ownsRow B 4 1 (.slice (some ⟨g,0,none⟩) n n) n (l.map Value.bool)):cP w g l:=by
 rcases h.2 with ⟨h,_⟩|⟨g',cap,cur,e,_,hh,_,_,hs,ht⟩
 .cases h
 .cases e
  rw[aaX (by simp;omega)] at ht;unfold cP;rw[hh,<-ht]
end
theorem OY (n:Nat):(madeCells #[.bool false] n).toList=(List.replicate n false).map Value.bool:=by
 rw[toList_madeCells_one,ael]
end
section
namespace Ed
open Si
abbrev E:=Int×Int
abbrev ZM:=Int×List E×Int
def nth (ns:List Int) (v:Int):Int:=ns.getD v.toNat (-1)
def okq (q:E):Bool:=decide (0<=q.1)&&decide (0<=q.2)
def pr (ns:List Int) (es:List E):List E:=(es.map fun p=>(nth ns p.1,nth ns p.2)).filter okq
def named (ns:List Int) (es:List E):List E:=made [] (pr ns es)
theorem jI {n:Int} {es:List E} (h0:0<=n) (h1:n<=1048576) (h2:es.length<=4194304) (h3:∀p∈es,ok n p) (h4:es.Pairwise lt):Val n es:=by
 refine⟨h0,h1,h2,fun j p hj=>h3 p (aai hj),fun j p q hp hq=> ?_⟩;rw[abo] at h4;obtain⟨hi,ei⟩:=aah.1 hp;obtain⟨hj,ej⟩:=aah.1 hq;have:=h4 j (j+1) hi hj (by omega);rw[ei,ej] at this;exact this
def QS (n:Nat) (l:List Int):Nat->List Int
 |0=>List.replicate n (-1)
 |k+1=>(QS n l k).set (l.getD k 0).toNat (k:Int)
def pl (n:Nat) (l:List Int):List Int:=QS n l l.length
theorem Ip (n:Nat) (l:List Int):∀k,(QS n l k).length=n
 |0=>by simp[QS]
 |k+1=>by simp[QS,Ip n l k]
def Dq (m:Nat) (keep:List Int):Nat->List Bool
 |0=>List.replicate m false
 |k+1=>(Dq m keep k).set (keep.getD k 0).toNat true
def mk (m:Nat) (keep:List Int):List Bool:=Dq m keep keep.length
theorem jU (m:Nat) (l:List Int):∀k,(Dq m l k).length=m
 |0=>by simp[Dq]
 |k+1=>by simp[Dq,jU m l k]
def sel:List Bool->List E->List E
 |true::b,e::es=>e::sel b es
 |false::b,_::es=>sel b es
 |_,_=>[]
theorem Eu:∀(b:List Bool) (es:List E) (k:Nat) (p:E) (x:Bool),es[k]? =some p->b[k]? =some x->sel b (es.take (k+1))=sel b (es.take k)++(if x=true then [p] else [])
 |[],_,_,_,_,_,h=>by simp at h
 |_::_,[],_,_,_,h,_=>by simp at h
 |c::b,e::es,0,p,x,h1,h2=>by
  simp at h1 h2;subst h1;subst h2;cases c<;>simp[sel]
 |c::b,e::es,k+1,p,x,h1,h2=>by
  have ih:=Eu b es k p x (by simpa using h1) (by simpa using h2);simp only[List.take_succ_cons];cases c
  .simp only[sel]
   simpa using ih
  .simp only[sel,abm]
   congr 1
theorem AQ:∀(b:List Bool) (es:List E),(sel b es).Sublist es
 |[],es=>by simp[sel]
 |_::_,[]=>by simp[sel]
 |true::b,e::es=>by simp only[sel];exact(AQ b es).cons_cons e
 |false::b,e::es=>by simp only[sel];exact(AQ b es).cons e
open Classical in
noncomputable def sub (n:Int) (es:List E) (keep:List Int):ZM:=
 if valid n es=false then (0,[],1) else if ¬ ∀x∈keep,0<=x/\x<(es.length:Int) then (0,[],2) else (n,sel (mk es.length keep) es,0)
def has (es:List E) (v:Int):Bool:=es.any fun p=>p.1==v||p.2==v
def bl (es:List E):Nat->List Int
 |0=>[]
 |k+1=>bl es k++(if has es k=true then [(k:Int)] else [])
noncomputable def bare (n:Int) (es:List E):ZM:=
 if valid n es=false then (0,[],1) else ((bl es n.toNat).length,named (pl n.toNat (bl es n.toNat)) es,0)
end Ed
end
section
open Go.RowKit Go.Sort
theorem Dc {ops:Array Oper} {rest:List Oper} {o:Oper} {a:Act} {Q:Exit->Act->World->Prop} (hgd:o.guard=none) (s x:Operand)
 (ho:o.op= .call { callee:= .builtin .append,args:= #[s,x],argTypes:= #[22,22] }) (W:World) (B:Nat) (v:Value) (l:List (Int×Int)) (y z:Int) (hown:bD W B v l)
 (hB:B<=W.heap.size) (hl:l.length<=8796093022000) (hs:a.eval s=v) (hx:a.eval x= .slice (some ⟨W.heap.size,0,none⟩) 1 1)
 (h:∀v' w',bD w' B v' (l++[(y,z)])->Below B W w'->wpList Tryz.prog ops Q rest (a.put o.dst v') w'):
 wpList Tryz.prog ops Q (o::rest) a (W.alloc (.cells #[.int .i64 y,.int .i64 z] 66)):=by
 obtain⟨i0,hi,hz0,hz1,hz2⟩:=info_parts Tryz.xH;have hb0:Below B W (W.alloc (.cells #[.int .i64 y,.int .i64 z] 66)):=(aae _ _).alloc hB _;refine wpList_append_own _ hgd s x 22 ho B 66 i0 (.agg #[.int .i64 0,.int .i64 0]) 2 16 Tryz.underlying22 hi hz0 hz1 hz2 rfl (by decide) _ _ _ hs (abH hown _) ⟨W.heap.size,0,none⟩ 1 1 [.int .i64 y,.int .i64 z] hx rfl (ud _ _ rfl _ _ _) (by simp[Value.oneCell']) (by unfold maxLen;omega) (by omega) (by simp;omega) ?_;intro v' w' hown' hg _;have ho':bD w' B v' (l++[(y,z)]):=by
  unfold bD;rw[qO,aar];exact hown'
 exact h v' w' ho' (hb0.grown hg (by simp;omega) (fun b hb=>(aap hown b hb).1))
end
section
open Go.Proofs.Tryz
open Go.RowKit Go.Sort
def adZ (r:Ed.ZM) (w:World) (e:Ending) (w':World):Prop:=
 ∃v,e= .returned (.tuple #[.agg #[.int .i64 r.1,v],.int .i64 r.2.2])/\bD w' w.heap.size v r.2.1/\Below w.heap.size w w'
theorem Ii (c:Int) (w:World):Calls prog 141 #[.int .i64 c] w fun e w'=>e= .returned (.tuple #[.agg #[.int .i64 0,.slice none 0 0],.int .i64 c])/\Below w.heap.size w w':=by
 go_enter func141,ntmps141;go_wp2;refine bodyPost_ret (v:= .tuple #[.agg #[.int .i64 0,.slice none 0 0],.int .i64 c]) (by simp[results,results141,go_sem]) rfl ?_;exact⟨rfl,by first|exact(((aae _ _).alloc (aad _) _).setCell (by simp) _).setCell (by simp) _|exact(aae _ _).alloc (aad _) _⟩
theorem LN {x c:Int} (h0:0<=x) (h1:x<c) (w:World):Calls prog 142 #[.int .i64 x,.int .i64 c] w fun e w'=>e= .returned (.bool true)/\w'=w:=by
 go_enter func142,ntmps142;go_wp2;go_ret;exact⟨rfl,rfl⟩
theorem Pb {x c:Int} (h:x<0\/c<=x) (w:World):Calls prog 142 #[.int .i64 x,.int .i64 c] w fun e w'=>e= .returned (.bool false)/\w'=w:=by
 by_cases h0:0<=x
 .have h1:¬x<c:=by omega
  clear h;go_enter func142,ntmps142;go_wp2;go_ret;exact⟨rfl,rfl⟩
 .clear h
  go_enter func142,ntmps142;go_wp2;go_ret;exact⟨rfl,rfl⟩
end
section
open Go.RowKit Go.Sort
theorem Ou (W:World) (o:Obj):(W.alloc o).heap.size=W.heap.size+1:=by simp
theorem Kg (ao:Option Addr) (cap g:Nat) (es:List (Int×Int)) (bs:List Bool) (w:World) (he:ah w ao es) (hl:es.length<=4194304) (hb:cP w g bs) (hbl:bs.length=es.length):
 Calls Tryz.prog 143 #[.slice (some ⟨g,0,none⟩) es.length es.length,.slice ao es.length cap] w fun e w'=>∃v,e= .returned v/\bD w' w.heap.size v (Ed.sel bs es)/\Below w.heap.size w w':=by
 have HE:=ζ he;have TQ:=ζ hb;have Ee:=ζ hbl;clear he hb hbl;go_enter Tryz.func143,Tryz.ntmps143;go_wp2;go_loopw [5,10] (fun v c wr=>∃(k:Nat) (L:List (Int×Int)),k<=es.length/\c= .int .i64 k/\L=Ed.sel bs (es.take k)/\bD wr w.heap.size v L/\Below w.heap.size w wr) (fun _ c _=>es.length-(intOf c).toNat)
 case atStart=>exact⟨0,[],aax _,rfl,by cases bs with|nil=>rfl|cons b _=>cases b<;>rfl,bD.nil _ _,aae _ _⟩
 case round=>
  obtain⟨k,L,hk,rfl,hL,hrow,hb⟩:=hrel;have gB:=ζ hrow;have HB:=ζ hb;have HL:=ζ hL;have hs0:w.heap.size<=wr.heap.size:=hb.size;have Gv:L.length<=k:=by
   rw[hL];refine aaD (Ed.AQ _ _).length_le ?_;rw[abu];omega
  by_cases hlt:k<es.length
  .have aQ:(k:Int)<(es.length:Int):=by omega
   have hk0:(0:Int)<=(k:Int):=by omega
   obtain⟨p,hp⟩:∃p,es[k]? =some p:=⟨_,aac hlt⟩;obtain⟨x,hx⟩:∃x,bs[k]? =some x:=⟨_,aac (by rw[Ee.out];exact hlt)⟩;obtain⟨b,o,rfl,c0,c1⟩:=(HE.out.later hb) k p hp;have hbl:b<wr.heap.size:=block_lt_of_cell c0;have hB2:=TQ.out.later hb;have d0:=hB2.cell hx;have Mg:=hB2.lt;have HT:=ζ (Ed.Eu bs es k p x hp hx);obtain⟨p1,p2⟩:=p;dsimp only at c0 c1;have HEB:Hid ((wr.alloc (.cells #[.int .i64 p1,.int .i64 p2] 66)).heap[wr.heap.size]? =some (.cells #[.int .i64 p1,.int .i64 p2] 66 (0,0))):=heap_alloc_new wr _;clear hrow hb hL hp hx hB2;cases x with
   |false=>
    go_wp2;go_roundw
    case rel=>exact⟨k+1,L,by omega,by go_num,by rw[HL.out,HT.out];simp,gB.out.alloc _,HB.out.alloc hs0 _⟩
    case measure=>simp[intOf];omega
   |true=>
    have aB:=ζ (HB.out.alloc hs0 (.cells #[.int .i64 p1,.int .i64 p2] 66));go_wp2_with (at_builtin;refine Dc rfl _ _ rfl _ w.heap.size _ L p1 p2 (gB.out.alloc _) (by simp;omega) (by omega) rfl (by first|rfl|(simp only[Ou];rfl)) ?_;refine aaj ?_);refine ζ ?_;intro v' w3 hrow3 hb3;have iX:=ζ hrow3;have aJ:=ζ (aB.out.trans hb3);clear hrow3 hb3;go_wp2;go_roundw
    case rel=>exact⟨k+1,_,by omega,by go_num,by rw[HT.out,<-HL.out];simp,iX.out,aJ.out⟩
    case measure=>simp[intOf];omega
  .have hd:¬((k:Int)<(es.length:Int)):=by omega
   have SA:L=Ed.sel bs es:=by rw[hL,aaX (by omega)]
   have zY:=ζ SA;clear hrow hb hL SA;go_wp2;go_ret;exact⟨_,rfl,by rw[<-zY.out];exact gB.out,HB.out⟩
end
section
open Go.RowKit
structure LW (w:World) where
 val:World
 h:Below w.heap.size w val
theorem LW.any (w:World):Nonempty (LW w):=⟨⟨w,aae _ _⟩⟩
theorem aG {P:Program} {id:Nat} {Q:Exit->Act->World->Prop} {a:Act} {w:World} {l:List Oper} (hm:P.follows .mixedOrders=true) (hB:Region.lexB .any l.toArray=true)
 (h:wpQuiet P l.toArray (fun w'=>∃D:LW w,w'=D.val) (fun a'=>∀w',(∃D:LW w,w'=D.val)->Q .normal a' w') l a):(Code.region id l.toArray true).wp P Q a w:=
 wp_region_quiet (C:=fun w'=>∃D:LW w,w'=D.val) hm hB ⟨⟨w.drew,(aae _ _).drew⟩,rfl⟩ (by simpa using h)
theorem Calls.lw {P:Program} {f:FuncId} {args:Array Value} {w:World} {D:LW w} {v:Value}
 (h:Calls P f args D.val fun e w'=>e= .returned v/\Below D.val.heap.size D.val w'):Calls P f args D.val fun e w''=>e= .returned v/\∃D':LW w,w''=D'.val:=
 h.mono fun _ w' ⟨he,hb⟩=>⟨he,⟨w',D.h.trans (hb.mono D.h.size)⟩,rfl⟩
end
section
open Go.RowKit
theorem Af (a b c d:Int) (w:World):(Op.equalIn 10000 66 (.agg #[.int .i64 a,.int .i64 b]) (.agg #[.int .i64 c,.int .i64 d])).run Tryz.prog w= .ok (a==c&&b==d) w:=by
 have u3:=Tryz.underlying3;have a3:=Tryz.isAgg3;have z3:=Tryz.sizeOf3;have hS:Tryz.prog.underlying 66=some (.struct (Tryz.prog.fieldsOf 66)):=by kernel_rfl
 rw[show(10000:Nat)=9999+1 from rfl,run_equalIn_agg w 9999 66 _ _ hS (by kernel_rfl)];simp only[Program.fieldsOf,Tryz.underlying66];go_simp;by_cases h1:a=c<;>by_cases h2:b=d<;>simp[h1,h2]
end
section
open Go.RowKit Go.Sort
structure pZ (w:World) (n:Int) (ao:Option Addr) (cap:Nat) (es:List (Int×Int)) (W:World):Prop where
 low:Below w.heap.size w W
 box:W.heap[w.heap.size]? =some (.cells #[.int .i64 n,.slice ao es.length cap] 24 (0,0))
 res:W.heap[w.heap.size+1]? =some (.cells #[.int .i64 0,.slice none 0 0] 24 (0,0))
section
variable {w W W':World} {n:Int} {ao:Option Addr} {cap:Nat} {es:List (Int×Int)}
theorem pZ.start:pZ w n ao cap es ((w.alloc (.cells #[.int .i64 n,.slice ao es.length cap] 24)).alloc (.cells #[.int .i64 0,.slice none 0 0] 24)):=by
 refine⟨((aae _ _).alloc (aad _) _).alloc (by simp) _,?_,?_⟩
 .rw[aaF _ _ _ (by simp)]
  exact heap_alloc_new w _
 .have:=heap_alloc_new (w.alloc (.cells #[.int .i64 n,.slice ao es.length cap] 24)) (.cells #[.int .i64 0,.slice none 0 0] 24)
  simpa using this
theorem pZ.later (h:pZ w n ao cap es W) (hb:Below W.heap.size W W'):pZ w n ao cap es W':=
 ⟨h.low.trans (hb.mono h.low.size),(hb.block _ (lt_of_block h.box)).trans h.box,(hb.block _ (lt_of_block h.res)).trans h.res⟩
theorem pZ.cells (h:pZ w n ao cap es W):W.cell? ⟨w.heap.size,0,none⟩=some (.int .i64 n)/\W.cell? ⟨w.heap.size,1,none⟩=some (.slice ao es.length cap):=⟨(af h.box).1,(af h.box).2.1⟩
theorem pZ.FL (h:pZ w n ao cap es W):W.cell? ⟨w.heap.size+1,0,none⟩=some (.int .i64 0)/\W.cell? ⟨w.heap.size+1,1,none⟩=some (.slice none 0 0):=⟨(af h.res).1,(af h.res).2.1⟩
theorem pZ.free (h:pZ w n ao cap es W) (i:Nat):W.frozen? ⟨w.heap.size+1,i,none⟩=false:=by simp[World.frozen?,h.res]
theorem pZ.size (h:pZ w n ao cap es W):w.heap.size+1<W.heap.size:=lt_of_block h.res
theorem MI {b i r:Nat} (h:b≠r) (x y:Value):((W.setCell ⟨r,0,none⟩ x).setCell ⟨r,1,none⟩ y).cell? ⟨b,i,none⟩=W.cell? ⟨b,i,none⟩:=by
 simp[World.cell?,fy h x y]
theorem OQ {B r:Nat} {v:Value} (h:bD W B v es) (hr:v.ownBlock≠some r) (x y:Value):bD ((W.setCell ⟨r,0,none⟩ x).setCell ⟨r,1,none⟩ y) B v es:=by
 refine⟨h.1,?_⟩;rcases h.2 with h|⟨g,cap,cur,e,hgB,hh,hk⟩
 .exact .inl h
 .have hg:g≠r:=fun e'=>hr (by rw[e,e'];rfl)
  refine .inr ⟨g,cap,cur,e,hgB,?_,hk⟩;rw[heap_setCell_other _ ⟨r,1,none⟩ g y hg,heap_setCell_other _ ⟨r,0,none⟩ g x hg];exact hh
theorem pZ.store (h:pZ w n ao cap es W) (x y:Value):Below w.heap.size w ((W.setCell ⟨w.heap.size+1,0,none⟩ x).setCell ⟨w.heap.size+1,1,none⟩ y)/\((W.setCell ⟨w.heap.size+1,0,none⟩ x).setCell ⟨w.heap.size+1,1,none⟩ y).cell? ⟨w.heap.size+1,0,none⟩=some x/\((W.setCell ⟨w.heap.size+1,0,none⟩ x).setCell ⟨w.heap.size+1,1,none⟩ y).cell? ⟨w.heap.size+1,1,none⟩=some y:=by
 obtain⟨r0,r1,-⟩:=af (kW h.res x y);exact⟨(h.low.setCell (by simp) _).setCell (by simp) _,r0,r1⟩
end
end
section
open Go.Proofs.Tryz
open Go.RowKit Go.Sort
theorem PO (n:Int) (lo:Option Addr) (q lc:Nat) (l:List Int) (ao:Option Addr) (cap:Nat) (es:List (Int×Int)) (w:World) (he:ah w ao es) (hl:es.length<=4611686018427387904) (hq:l.length=q) (hat:aU w lo l) (XS:q<=4611686018427387904):
 Calls prog 97 #[az n ao es.length cap,.slice lo q lc] w (adZ (Ed.sub n es l) w):=by
 have HE:=ζ he;have jC:=fun W (hb:Below w.heap.size w W)=>ow n ao cap es W (he.later hb) hl
 have hB0:=pZ.start (w:=w) (n:=n) (ao:=ao) (cap:=cap) (es:=es);unfold az at jC ⊢;have cS:=ζ jC;have aH:=ζ hB0;have HRF:=ζ Ii;have ym:=ζ hat;have HQ:=ζ hq;clear he jC hB0 hat hq;cases hv:Si.valid n es with
 |false=>
  have hr:Ed.sub n es l=(0,[],1):=by unfold Ed.sub;rw[if_pos hv]
  rw[hr];rw[hv] at cS;clear hv hr;go_enter func97,ntmps97;go_wp2_with (go_at_call 38;refine(cS.out _ aH.out.low).mono ?_;rintro e w1 ⟨rfl,hb⟩;refine aaj ?_);refine ζ ?_;have aI:=ζ (aH.out.later hb);clear hb;obtain⟨g0,g1⟩:=aI.out.cells;have hs1:=aI.out.size;have hs0:w.heap.size<w1.heap.size:=by omega
  go_wp2_with (go_at_call 141;refine(HRF.out _ _).mono ?_;rintro e w2 ⟨rfl,hb⟩;have aB:=ζ (aI.out.later hb);clear hb;obtain⟨r0,r1⟩:=aB.out.FL;have f0:=aB.out.free 0;have f1:=aB.out.free 1);obtain⟨hb,s0,s1⟩:=aB.out.store (.int .i64 0) (.slice none 0 0);refine bodyPost_ret (v:= .tuple #[.agg #[.int .i64 0,.slice none 0 0],.int .i64 1]) (by simp[results,results97,go_sem,s0,s1]) rfl ?_;exact⟨_,rfl,bD.nil _ _,hb⟩
 |true=>
  have hval:=Si.aK.1 hv;have bQ:=hval.few;have hlo:=hval.lo;have hhi:=hval.hi;have bY:=ζ hval;have HV:=ζ hv;rw[hv] at cS;clear hv hval;obtain⟨i0,hi,hz0,hz1,hz2⟩:=info_parts Tryz.LP;go_enter func97,ntmps97;go_wp2_with (go_at_call 38;refine(cS.out _ aH.out.low).mono ?_;rintro e w1 ⟨rfl,hb⟩;refine aaj ?_);refine ζ ?_;have aI:=ζ (aH.out.later hb);clear hb;obtain⟨g0,g1⟩:=aI.out.cells;have hs1:=aI.out.size;have hs0:w.heap.size<w1.heap.size:=by omega
  go_wp2_with (at_make;refine wpList_make_full _ rfl _ _ 237 rfl w1.heap.size 4 i0 (.bool false) 1 Tryz.underlying237 hi hz0 hz1 _ _ _ _ es.length rfl rfl rfl rfl (by rw[hz2];omega) (by unfold maxLen;omega) (aad _) ?_;refine aaj ?_);refine ζ ?_;intro w3 hrow3 hg3;have Ee:Hid (cP w3 w1.heap.size (List.replicate es.length false)):=by
   refine Kp (B:=w1.heap.size) (n:=es.length) ?_;rw[<-OY];simpa using hrow3
  have hb3:Below w1.heap.size w1 w3:=(aae _ _).grown hg3 (aad _) (fun j hj=>by cases hj);have aJ:=ζ (aI.out.later hb3);clear hrow3 hg3 hb3 g0 g1;go_wp2;go_loopw [21] (fun c wr=>∃(k:Nat) (L:List Bool),k<=q/\c= .int .i64 k/\L=Ed.Dq es.length l k/\(∀(i:Nat) (x:Int),i<k->l[i]? =some x->0<=x/\x<(es.length:Int))/\cP wr w1.heap.size L/\pZ w n ao cap es wr) (fun c _=>q-(intOf c).toNat)
  case atStart=>exact⟨0,_,aax _,rfl,rfl,fun i x h=>by omega,Ee.out,aJ.out⟩
  case round=>
   obtain⟨k,L,hk,rfl,hL,hin,yQ,ck⟩:=hrel;have adF:=ζ yQ;have iI:=ζ ck;have HL:=ζ hL;have yg:=ζ hin;have fP:=yQ.lt;obtain⟨g0,g1⟩:=ck.cells;have hsx:=ck.size;by_cases hlt:k<q
   .have aQ:(k:Int)<(q:Int):=by omega
    have hk0:(0:Int)<=(k:Int):=by omega
    have hkl:k<l.length:=by rw[HQ.out];exact hlt
    obtain⟨x,hx⟩:∃x,l[k]? =some x:=⟨_,aac hkl⟩;obtain⟨b,o,rfl,c0⟩:=(ym.out.later ck.low) k x hx;have hbl:b<wr.heap.size:=block_lt_of_cell c0;have HX:=ζ hx;clear hin hx ck;by_cases eP:0<=x/\x<(es.length:Int)
    .obtain⟨xv,rfl⟩:∃v:Nat,x=(v:Int):=⟨x.toNat,by omega⟩
     have hx0:(0:Int)<=(xv:Int):=eP.1;have hx1:(xv:Int)<(es.length:Int):=eP.2;obtain⟨y,hy⟩:∃y,L[xv]? =some y:=⟨_,aac (by rw[hL,Ed.jU];omega)⟩;have y0:=yQ.cell hy;have yf:=yQ.free xv;have HA2:=ζ (yQ.set xv true);have KC:=ζ eP
     have adC:Hid (pZ w n ao cap es (wr.setCell ⟨w1.heap.size,xv,none⟩ (.bool true))):=
      ⟨iI.out.low.setCell (by simp;omega) _,(heap_setCell_other _ ⟨w1.heap.size,xv,none⟩ _ _ (by simp;omega)).trans iI.out.box,(heap_setCell_other _ ⟨w1.heap.size,xv,none⟩ _ _ (by simp;omega)).trans iI.out.res⟩
     clear yQ hL hy eP;go_wp2_with (go_at_call 142;refine(LN hx0 hx1 _).mono ?_;rintro e w2 ⟨rfl,rfl⟩);go_roundw
     case rel=>
      refine⟨k+1,_,by omega,by go_num,?_,fun i z hi hz=> ?_,HA2.out,adC.out⟩
      .have e:l.getD k 0=(xv:Int):=by rw[aao,HX.out];rfl
       show _=(Ed.Dq es.length l k).set _ _;rw[e,<-HL.out];rfl
      .by_cases hik:i=k
       .subst hik
        rw[HX.out] at hz;cases hz;exact KC.out
       .exact yg.out i z (by omega) hz
     case measure=>simp[intOf];omega
    .have hr:Ed.sub n es l=(0,[],2):=by
      unfold Ed.sub;rw[if_neg (by rw[HV.out];simp),if_pos (fun h=>eP (h x (aai HX.out)))]
     have HR:=ζ hr;have CW:Hid (x<0\/(es.length:Int)<=x):=ζ (by omega);clear yQ hL hr eP
     go_wp2_with (first
      |(go_at_call 142;refine(Pb CW.out _).mono ?_;rintro e w2 ⟨rfl,rfl⟩)
      |(go_at_call 141;refine(HRF.out _ _).mono ?_;rintro e w2 ⟨rfl,hb⟩;have aB:=ζ (iI.out.later hb);clear hb;obtain⟨r0,r1⟩:=aB.out.FL;have f0:=aB.out.free 0;have f1:=aB.out.free 1))
     obtain⟨hb,s0,s1⟩:=aB.out.store (.int .i64 0) (.slice none 0 0);refine bodyPost_ret (v:= .tuple #[.agg #[.int .i64 0,.slice none 0 0],.int .i64 2]) (by simp[results,results97,go_sem,s0,s1]) rfl ?_;rw[HR.out];exact⟨_,rfl,bD.nil _ _,hb⟩
   .have hd:¬((k:Int)<(q:Int)):=by omega
    have hkq:k=l.length:=by rw[HQ.out];omega
    have hr:Ed.sub n es l=(n,Ed.sel L es,0):=by
     unfold Ed.sub;rw[if_neg (by rw[HV.out];simp),if_neg,hL,hkq]
     .rfl
     .intro h
      refine h fun x hx=> ?_
      obtain⟨i,hi,e⟩:=aaT.1 hx;exact hin i x (by omega) (by rw[<-e];exact aac hi)
    have HR:=ζ hr;have dW:L.length=es.length:=by rw[hL,Ed.jU]
    have hch:=fun W (hb:Below wr.heap.size wr W)=>Kg ao cap w1.heap.size es L W (HE.out.later (iI.out.low.trans (hb.mono iI.out.low.size))) bQ (adF.out.later hb) dW
    have iz:=ζ hch;clear hch hr hin hL yQ ck hkq dW;go_wp2
    go_region_held3 (fun w'=>w'.cell? ⟨w.heap.size,0,none⟩=some (.int .i64 n)/\w'.cell? ⟨w.heap.size,1,none⟩=some (.slice ao es.length cap))
     (first
     |(go_keep;done)
     |(go_split_ands
       (try dsimp only);(repeat' apply And.intro)<;>(refine(hb3.cell (p:=⟨_,_,none⟩) ?_).trans ?_<;>first|assumption|(simp;omega)))
     |(go_split_ands
       (try dsimp only);(repeat' apply And.intro)<;>(refine(hb4.cell (p:=⟨_,_,none⟩) ?_).trans ?_<;>first|assumption|(simp;omega)))
     |(go_split_ands;(try dsimp only);(repeat' apply And.intro)<;>(refine(MI ?_ _ _).trans ?_<;>first|assumption|omega|(simp;done))))
     ((go_at_call 143;refine(iz.out _ (aae _ _).drew).mono ?_;rintro e w3 ⟨v,rfl,hown,Wj⟩;have hb3:Below wr.heap.size wr w3:=(aae wr.heap.size wr).drew.trans Wj;have hown2:bD w3 w.heap.size v (Ed.sel L es):=hown.lower (by simp;omega);obtain⟨va,vc,rfl,-,-,-,-⟩:=hown.form;have aJ:=ζ (iI.out.later hb3);obtain⟨r0,r1⟩:=aJ.out.FL;have f0:=aJ.out.free 0;have f1:=aJ.out.free 1))
    have ct:=ζ hown2;have C2:=ζ (hown.far (b:=w.heap.size+1) (by simp;omega));clear hown2 hown hb3 Wj;go_wp2;obtain⟨hb,s0,s1⟩:=aJ.out.store (.int .i64 n) (.slice va (Ed.sel L es).length vc);refine bodyPost_ret (v:= .tuple #[.agg #[.int .i64 n,.slice va (Ed.sel L es).length vc],.int .i64 0]) (by simp[results,results97,go_sem,s0,s1]) rfl ?_;rw[HR.out];exact⟨_,rfl,OQ ct.out C2.out _ _,hb⟩
end
section
open Go.RowKit
theorem Tryz.nR:(Tryz.prog.info? 4).map (fun i=>(i.zero,i.size,i.bytes))=some (some (.bool false),1,1):=by kernel_rfl
def Co.bS (f:Nat->Bool) (x:Nat) (y:Bool):Nat->Bool:=fun i=>if i=x then y else f i
theorem Co.eY (f:Nat->Bool) (x:Nat) (y:Bool):Co.bS f x y x=y:=by simp[Co.bS]
theorem Co.dr (f:Nat->Bool) {x i:Nat} {y:Bool} (h:i≠x):Co.bS f x y i=f i:=by simp[Co.bS,h]
def Co.bools (n:Nat) (f:Nat->Bool):List Value:=(List.range n).map fun i=>Value.bool (f i)
def aF (w:World) (g n:Nat) (f:Nat->Bool):Prop:=w.heap[g]? =some (.cells (Co.bools n f).toArray 4 (0,0))
section
variable {w w':World} {g n:Nat} {f:Nat->Bool}
theorem Co.sq {i:Nat} (hi:i<n):(Co.bools n f)[i]? =some (.bool (f i)):=by
 unfold Co.bools;rw[aaP,acU hi];rfl
theorem aF.lt (h:aF w g n f):g<w.heap.size:=lt_of_block h
theorem aF.cell (h:aF w g n f) {i:Nat} (hi:i<n):w.cell? ⟨g,i,none⟩=some (.bool (f i)):=by
 unfold aF at h;have:=Co.sq (f:=f) hi;simp[World.cell?,h,this]
theorem aF.free (h:aF w g n f) (i:Nat):w.frozen? ⟨g,i,none⟩=false:=by
 unfold aF at h;simp[World.frozen?,h]
theorem aF.set (h:aF w g n f) (i:Nat) (y:Bool):aF (w.setCell ⟨g,i,none⟩ (.bool y)) g n (Co.bS f i y):=by
 unfold aF at h ⊢;rw[heap_setCell_same w g i _ _ _ h,acF]
 congr 2
 congr 1
 refine ab4 fun j=> ?_
 rw[aaI];by_cases hj:j<n
 .rw[Co.sq hj,Co.sq hj]
  by_cases e:i=j
  .subst e
   rw[if_pos rfl,if_pos (by simp[Co.bools];exact hj),Co.eY]
  .rw[if_neg e,Co.dr _ (acs e)]
 .rw[aaV (by simp[Co.bools];omega),aaV (by simp[Co.bools];omega)]
  by_cases e:i=j
  .rw[if_pos e,if_neg (by simp[Co.bools];omega)]
  .rw[if_neg e]
theorem aF.same (h:aF w g n f) (hb:w'.heap[g]? =w.heap[g]?):aF w' g n f:=hb.trans h
theorem aF.later (h:aF w g n f) (hb:Below w.heap.size w w'):aF w' g n f:=(hb.block g h.lt).trans h
theorem jV {W:World} {k:Nat} (h:W.heap.size=k) (n:Nat):aF (W.alloc (.cells (madeCells #[.bool false] n) 4)) k n (fun _=>false):=by
 subst h;unfold aF;rw[heap_alloc_new]
 congr 2
 apply Array.ext';rw[toList_madeCells_one];refine ab4 fun j=> ?_
 by_cases hj:j<n
 .rw[Co.sq hj];simp[hj]
 .rw[aaV (by simp;omega),aaV (by simp[Co.bools];omega)]
end
end
section
open Go.RowKit
def Cs.kg (n:Nat) (es:List (Int×Int)) (x:Int):List Int:=(Cs.yF n es x).map fun i:Nat=>(i:Int)
theorem Cs.OS {n:Nat} {es:List (Int×Int)} {x:Int}:(Cs.kg n es x).length=(Cs.yF n es x).length:=by simp[Cs.kg]
def Cs.PG (es:List (Int×Int)) (x:Int):Int:=if 0<=x/\x<2*(es.length:Int) then (Cs.fr es x.toNat:Int) else -1
def Cs.toI (es:List (Int×Int)) (x:Int):Int:=if 0<=x/\x<2*(es.length:Int) then (Cs.to es x.toNat:Int) else -1
theorem Cs.oV {es:List (Int×Int)} {i:Nat} (h:i<2*es.length):Cs.PG es i=(Cs.fr es i:Int):=by
 unfold Cs.PG;rw[if_pos (by omega)];simp
theorem Cs.toI_in {es:List (Int×Int)} {i:Nat} (h:i<2*es.length):Cs.toI es i=(Cs.to es i:Int):=by
 unfold Cs.toI;rw[if_pos (by omega)];simp
theorem Cs.Vf {es:List (Int×Int)} {x:Int} (h:¬(0<=x/\x<2*(es.length:Int))):Cs.PG es x= -1:=by unfold Cs.PG;rw[if_neg h]
theorem Cs.toI_no {es:List (Int×Int)} {x:Int} (h:¬(0<=x/\x<2*(es.length:Int))):Cs.toI es x= -1:=by unfold Cs.toI;rw[if_neg h]
theorem Cs.FZ (u:Nat):u ^^^ 1=Cs.twin u:=by
 have h1:(u ^^^ 1)/2=u/2:=by rw[Nat.xor_div_two];simp
 have h2:(u ^^^ 1)%2=(u+1)%2:=by
  have:=Nat.xor_mod_two_pow (a:=u) (b:=1) (n:=1);simp at this;rw[this];rcases abF u with h|h<;>rw[h]<;>simp<;>omega
 unfold Cs.twin
 split<;>omega
theorem Cs.kS (u:Nat) (hu:u<4611686018427387904):bits .xor .i64 (u:Int) 1=(Cs.twin u:Int):=by
 have h1:(BitVec.ofInt 64 (u:Int)).toNat=u:=by
  rw[BitVec.ofInt_natCast,BitVec.toNat_ofNat];exact abt (by omega)
 have h2:(BitVec.ofInt 64 (1:Int)).toNat=1:=by decide
 show IntKind.i64.wrap ((BitVec.ofInt 64 (u:Int) ^^^ BitVec.ofInt 64 (1:Int)).toNat:Int)=_;have h3:=Cs.FZ u;have h4:Cs.twin u<=u+1:=by unfold Cs.twin;split<;>omega
 rw[BitVec.toNat_xor,h1,h2,aam,h3];omega
end
namespace Ro
def lv (es:List (Int×Int)) (h:Int) (v:Nat):Bool:=decide (0<=h)&&decide (h<2*(es.length:Int))&&(Cs.PG es h==(v:Int))
def fA (es:List (Int×Int)) (v:Nat):List Int->List Int->Int
 |_,[]=>0
 |pre,h::t=>if lv es h v then (if h∈pre then 112 else fA es v (pre++[h]) t) else 111
def gG (es:List (Int×Int)) (v:Nat):Nat:=(Cs.out es v (2*es.length)).length
def wY (es:List (Int×Int)) (v:Nat) (l:List Int):Int:=if fA es v [] l≠0 then fA es v [] l else if l.length<gG es v then 113 else 0
def fU (es:List (Int×Int)):Nat->List (List Int)->Nat×Int
 |_,[]=>(0,0)
 |v,l::ls=>if wY es v l≠0 then (v,wY es v l) else fU es (v+1) ls
noncomputable def check (n:Int) (es:List (Int×Int)) (ls:List (List Int)):Nat×Int:=if Si.valid n es=true then (if (ls.length:Int)≠n then (0,110) else fU es 0 ls) else (0,1)
end Ro
section
namespace Ro
structure Sd (es:List (Int×Int)) (f:Nat->Bool) (v:Nat) (D pre:List Int):Prop where
 tell:∀j:Nat,f j=true↔(j:Int)∈D\/(j:Int)∈pre
 low:∀x∈D,∃u:Nat,u<v/\lv es x u=true
 here:∀x∈pre,lv es x v=true
theorem Ut {es:List (Int×Int)} {x:Int} {u v:Nat} (h:lv es x u=true) (h2:lv es x v=true):u=v:=by
 unfold lv at h h2;simp at h h2;omega
theorem rR {es:List (Int×Int)} {x:Int} {v:Nat} (h:lv es x v=true):∃j:Nat,x=(j:Int)/\j<2*es.length/\Cs.fr es j=v:=by
 unfold lv at h;simp at h;obtain⟨j,rfl⟩:∃j:Nat,x=(j:Int):=⟨x.toNat,by omega⟩;have hj:j<2*es.length:=by omega
 rw[Cs.oV hj] at h;exact⟨j,rfl,hj,by omega⟩
theorem Xk {es:List (Int×Int)} {j v:Nat} (hj:j<2*es.length) (h:Cs.fr es j=v):lv es (j:Int) v=true:=by
 unfold lv;rw[Cs.oV hj];simp;omega
theorem Sd.start (es:List (Int×Int)):Sd es (fun _=>false) 0 [] []:=⟨fun j=>by simp,fun x hx=>by simp at hx,fun x hx=>by simp at hx⟩
theorem Sd.twice {es:List (Int×Int)} {f:Nat->Bool} {v j:Nat} {D pre:List Int} (h:Sd es f v D pre) (hl:lv es (j:Int) v=true):f j=true↔(j:Int)∈pre:=by
 rw[h.tell];constructor
 .rintro(h1|h1)
  .obtain⟨u,hu,h2⟩:=h.low _ h1
   have:=Ut hl h2;omega
  .exact h1
 .exact Or.inr
theorem Sd.put {es:List (Int×Int)} {f:Nat->Bool} {v j:Nat} {D pre:List Int} (h:Sd es f v D pre) (hl:lv es (j:Int) v=true):Sd es (Co.bS f j true) v D (pre++[(j:Int)]):=by
 refine⟨fun i=> ?_,h.low,fun x hx=> ?_⟩
 .by_cases e:i=j
  .subst e
   rw[Co.eY];simp
  .rw[Co.dr _ e,h.tell]
   have e2:¬(i:Int)=(j:Int):=by omega
   simp[e2]
 .rcases abG.1 hx with h1|h1
  .exact h.here x h1
  .obtain rfl:=abg.1 h1
   exact hl
theorem Sd.next {es:List (Int×Int)} {f:Nat->Bool} {v:Nat} {D pre:List Int} (h:Sd es f v D pre):Sd es f (v+1) (D++pre) []:=by
 refine⟨fun i=> ?_,fun x hx=> ?_,fun x hx=>by simp at hx⟩
 .rw[h.tell]
  simp
 .rcases abG.1 hx with h1|h1
  .obtain⟨u,hu,h2⟩:=h.low x h1
   exact⟨u,by omega,h2⟩
  .exact⟨v,by omega,h.here x h1⟩
section
variable {es:List (Int×Int)} {v:Nat} {pre t:List Int} {h:Int}
theorem nW (hl:lv es h v=false):fA es v pre (h::t)=111:=by simp[fA,hl]
theorem lV (hl:lv es h v=true) (hp:h∈pre):fA es v pre (h::t)=112:=by simp[fA,hl,hp]
theorem rX (hl:lv es h v=true) (hp:h∉pre):fA es v pre (h::t)=fA es v (pre++[h]) t:=by simp[fA,hl,hp]
end
theorem eU {es:List (Int×Int)} {k:Nat} {l:List Int} {ls:List (List Int)} {c:Int} (h:wY es k l=c) (hc:c≠0):fU es k (l::ls)=(k,c):=by
 unfold fU;rw[h,if_pos hc]
theorem wF {es:List (Int×Int)} {k:Nat} {l:List Int} {ls:List (List Int)} (h:wY es k l=0):fU es k (l::ls)=fU es (k+1) ls:=by
 conv=>lhs;unfold fU
 rw[h,if_neg (by simp)]
theorem jN {es:List (Int×Int)} {k:Nat} {l:List Int} {c:Int} (h:fA es k [] l=c) (hc:c≠0):wY es k l=c:=by
 unfold wY;rw[h,if_pos hc]
theorem kE {es:List (Int×Int)} {k:Nat} {l:List Int} (h:fA es k [] l=0) (hd:l.length<gG es k):wY es k l=113:=by
 unfold wY;rw[h,if_neg (by simp),if_pos hd]
theorem vp {es:List (Int×Int)} {k:Nat} {l:List Int} (h:fA es k [] l=0) (hd:¬l.length<gG es k):wY es k l=0:=by
 unfold wY;rw[h,if_neg (by simp),if_neg hd]
theorem E2 {es:List (Int×Int)}:∀{k:Nat} {ls:List (List Int)},(fU es k ls).2=0->(fU es k ls).1=0
 |_,[],_=>rfl
 |k,l::ls,h=>by
  unfold fU at h ⊢
  split at h
  .rename_i hc
   exact absurd h hc
  .rename_i hc
   rw[if_neg hc];exact E2 h
theorem Kh {n:Int} {es:List (Int×Int)} {ls:List (List Int)} (h:(check n es ls).2=0):(check n es ls).1=0:=by
 unfold check at h ⊢
 split at h
 .rename_i h1
  rw[if_pos h1]
  split at h
  .cases h
  .rename_i h2
   rw[if_neg h2];exact E2 h
 .cases h
theorem drop_cons {α:Type} {l:List α} {i:Nat} {x:α} (h:l[i]? =some x):l.drop i=x::l.drop (i+1):=by
 obtain⟨hi,rfl⟩:=aah.1 h;exact ac7 hi
theorem dw {α:Type} {l:List α} {i:Nat} {x:α} (h:l[i]? =some x):l.take (i+1)=l.take i++[x]:=by
 rw[ab5,h];rfl
end Ro
end
section
open Go.RowKit
namespace Si
theorem wH (l:List Int) (v:Int):(bump l v).length=l.length:=by simp[bump]
theorem uE (n:Int) (es:List (Int×Int)) (p:Int×Int):aS n (es++[p])=bump (bump (aS n es) p.1) p.2:=by simp[aS,List.foldl_append]
theorem iQ (n:Int) (es:List (Int×Int)):(aS n es).length=n.toNat:=by
 unfold aS
 suffices h:∀(es:List (Int×Int)) (l:List Int),(es.foldl (fun l e=>bump (bump l e.1) e.2) l).length=l.length by rw[h];simp
 intro es
 induction es with
 |nil=>intro l;rfl
 |cons e es ih=>intro l;rw[List.foldl_cons,ih,wH,wH]
def zm (m:Int) (l:List Int):Prop:=∀(j:Nat) (x:Int),l[j]? =some x->0<=x/\x<=m
theorem zm.bump {m:Int} {l:List Int} (h:zm m l) (v:Int):zm (m+1) (bump l v):=by
 intro j x hx;unfold Si.bump at hx;rw[aaI] at hx;by_cases hv:v.toNat=j
 .rw[if_pos hv] at hx
  split at hx
  .cases hx
   rename_i hl
   have e:l[v.toNat]? =some l[v.toNat]:=aac hl;have:=h _ _ e;rw[aao,e];dsimp only[Option.getD_some];omega
  .cases hx
 .rw[if_neg hv] at hx
  have:=h j x hx;omega
theorem Cq (n:Int) (es:List (Int×Int)):zm (2*es.length) (aS n es):=by
 unfold aS
 suffices h:∀(es:List (Int×Int)) (l:List Int) (m:Int),zm m l->zm (m+2*es.length) (es.foldl (fun l e=>Si.bump (Si.bump l e.1) e.2) l) by
  have:=h es (List.replicate n.toNat 0) 0 (fun j x hx=>by
   rw[acj] at hx
   split at hx
   .cases hx;omega
   .cases hx)
  simpa using this
 intro es
 induction es with
 |nil=>intro l m h;simpa using h
 |cons e es ih=>
  intro l m h;have:=ih _ _ ((h.bump e.1).bump e.2);rw[List.foldl_cons];have e1:m+2*((e::es).length:Int)=m+1+1+2*(es.length:Int):=by simp;omega
  rw[e1];exact this
end Si
end
section
open Go.Proofs.Tryz
open Go.RowKit Go.Sort
def KW (n:Int) (es:List (Int×Int)) (w:World) (e:Ending) (w':World):Prop:=
 ((Si.valid n es=true/\∃g m:Nat,n=(m:Int)/\e= .returned (.tuple #[.slice (some ⟨g,0,none⟩) m m,.int .i64 0])/\w.heap.size<=g/\ak w' g (Si.aS n es))\/(Si.valid n es=false/\e= .returned (.tuple #[.slice none 0 0,.int .i64 1])))/\Below w.heap.size w w'
theorem Si.nY {l:List Int} {u:Nat} {x:Int} (h:l[u]? =some x):Si.bump l (u:Int)=l.set u (x+1):=by
 unfold Si.bump;rw[abz,aao,h];rfl
theorem wA (n:Int) (ao:Option Addr) (cap:Nat) (es:List (Int×Int)) (w:World) (he:ah w ao es) (hl:es.length<=4611686018427387904):
 Calls prog 173 #[az n ao es.length cap] w (KW n es w):=by
 obtain⟨i0,hi,hz0,hz1,hz2⟩:=info_parts Tryz.b7;have HE:=ζ he;have jC:=fun W (hb:Below w.heap.size w W)=>ow n ao cap es W (he.later hb) hl
 unfold az at jC ⊢;have cS:=ζ jC;clear he jC;have dJ:Below w.heap.size w (w.alloc (.cells #[.int .i64 n,.slice ao es.length cap] 24)):=(aae _ _).alloc (aad _) _;have bR:=ζ dJ;clear dJ;cases hv:Si.valid n es with
 |false=>
  rw[hv] at cS;have HV:=ζ hv;clear hv;go_enter func173,ntmps173;go_wp2_with (go_at_call 38;refine(cS.out _ bR.out).mono ?_;rintro e w' ⟨rfl,hb⟩;refine aaj ?_);refine ζ ?_;have HB:=ζ (bR.out.trans (hb.mono bR.out.size));clear hb;go_wp2;go_ret2;exact⟨.inr ⟨HV.out,rfl⟩,HB.out⟩
 |true=>
  rw[hv] at cS;have hval:=Si.aK.1 hv;have bQ:=hval.few;have hlo:=hval.lo;have hhi:=hval.hi;obtain⟨m,rfl⟩:∃m:Nat,n=(m:Int):=⟨n.toNat,by omega⟩;have bY:=ζ hval;have HV:=ζ hv;clear hval hv;go_enter func173,ntmps173;go_wp2_with (go_at_call 38;refine(cS.out _ bR.out).mono ?_;rintro e w' ⟨rfl,hb⟩;refine aaj ?_);refine ζ ?_;have hG:w'.heap[w.heap.size]? =some (.cells #[.int .i64 m,.slice ao es.length cap] 24 (0,0)):=(hb.block _ (by simp)).trans (heap_alloc_new w _);have HB:=ζ (bR.out.trans (hb.mono bR.out.size));have sG:=lt_of_block hG;obtain⟨g0,g1,-⟩:=af hG;clear hb hG;go_wp2_with (at_make;refine wpList_make_full _ rfl _ _ 55 rfl w'.heap.size 3 i0 (.int .i64 0) 1 Tryz.underlying55 hi hz0 hz1 _ _ _ _ m rfl rfl rfl rfl (by rw[hz2];omega) (by unfold maxLen;omega) (aad _) ?_;refine aaj ?_);refine ζ ?_;intro w2 hrow hg2;rw[cK] at hrow;have hik:=dV hrow;have hb2:Below w'.heap.size w' w2:=(aae _ _).grown hg2 (aad _) (fun j hj=>by cases hj);have aB:=ζ (HB.out.trans (hb2.mono HB.out.size));have k1:=(hb2.cell (p:=⟨w.heap.size,1,none⟩) sG).trans g1;have hs2:w'.heap.size<w2.heap.size:=hik.lt;have Zs:Hid (ak w2 w'.heap.size (Si.aS m [])):=by
   show ak _ _ _;have:Si.aS m []=List.replicate m 0:=by simp[Si.aS]
   rw[this];exact hik
  have Xt:w.heap.size<=w'.heap.size:=by omega
  have Ru:w.heap.size<w2.heap.size:=by omega
  clear hrow hg2 hb2 hik g0 g1;go_wp2;go_loopw [16] (fun c wr=>∃(k:Nat) (l:List Int),k<=es.length/\c= .int .i64 k/\l=Si.aS m (es.take k)/\ak wr w'.heap.size l/\Below w.heap.size w wr) (fun c _=>es.length-(intOf c).toNat)
  case atStart=>exact⟨0,_,aax _,rfl,by simp,Zs.out,aB.out⟩
  case round=>
   obtain⟨k,l,hk,rfl,hl0,hik,hb⟩:=hrel;have hsw:=hik.lt;have hs0:=hb.size;have dW:l.length=m:=by rw[hl0,Si.iQ];simp
   have eC:Si.zm (2*k) l:=by
    rw[hl0];have:=Si.Cq m (es.take k);have e:(es.take k).length=k:=by simp;omega
    rw[e] at this;exact this
   have TD:=ζ hik;have aJ:=ζ hb;have CY:=ζ hl0;clear hl0;by_cases hlt:k<es.length
   .have aQ:(k:Int)<(es.length:Int):=by omega
    have hk0:(0:Int)<=(k:Int):=by omega
    obtain⟨p,hp⟩:∃p,es[k]? =some p:=⟨_,aac hlt⟩;obtain⟨b,o,rfl,c0,c1⟩:=(HE.out.later hb) k p hp;have hbl:b<wr.heap.size:=block_lt_of_cell c0;have LR:Si.aS m (es.take (k+1))=Si.bump (Si.bump l p.1) p.2:=by rw[Si.gW hp,Si.uE,<-CY.out]
    have hok:=bY.out.each k p hp;unfold Si.ok at hok;obtain⟨pu,pv⟩:=p;dsimp only at c0 c1 LR hok;obtain⟨u,rfl⟩:∃u:Nat,pu=(u:Int):=⟨pu.toNat,by omega⟩;obtain⟨v,rfl⟩:∃v:Nat,pv=(v:Int):=⟨pv.toNat,by omega⟩;obtain⟨x,hx⟩:∃x,l[u]? =some x:=⟨_,aac (by omega)⟩;obtain⟨y,hy⟩:∃y,l[v]? =some y:=⟨_,aac (by omega)⟩;have hxb:=eC u x hx;have hyb:=eC v y hy;have hne:u≠v:=by omega
    have Jh:Si.aS m (es.take (k+1))=(l.set u (x+1)).set v (y+1):=by
     rw[LR,Si.nY hx,Si.nY (x:=y) (by rw[aaI,if_neg hne];exact hy)]
    have Tk:=ζ Jh;have hcx:=hik.cell hx;have Sj:=hik.cell hy;have hfr:=hik.free;have hi1:=hik.set u (x+1);have abw:=hi1.cell (i:=v) (x:=y) (by rw[aaI,if_neg hne];exact hy);have Sc:=hi1.free;have rz:=ζ ((hi1.set v (y+1)).alloc (.cells #[.int .i64 u,.int .i64 v] 66));have u0:(0:Int)<=(u:Int):=by omega
    have v0:(0:Int)<=(v:Int):=by omega
    have um:(u:Int)<(m:Int):=by omega
    have vm:(v:Int)<(m:Int):=by omega
    clear LR Jh eC hok hx hy hb hik hi1 hp;go_wp2;go_roundw
    case rel=>exact⟨k+1,_,by omega,by go_num,Tk.out.symm,rz.out,((aJ.out.setCell (by simp;omega) _).setCell (by simp;omega) _).alloc (by simp;omega) _⟩
    case measure=>simp[intOf];omega
   .have hd:¬((k:Int)<(es.length:Int)):=by omega
    have hle:l=Si.aS m es:=by rw[CY.out,aaX (by omega)]
    have zY:=ζ hle;clear hle hb hik eC;go_wp2;go_ret2;refine⟨.inl ⟨HV.out,w'.heap.size,m,rfl,rfl,Xt,?_⟩,aJ.out⟩;rw[<-zY.out];exact TD.out
theorem zg {w:World} {g i b o:Nat} (h:b≠g) (x:Value):(w.setCell ⟨g,i,none⟩ x).cell? ⟨b,o,none⟩=w.cell? ⟨b,o,none⟩:=by
 simp[World.cell?,heap_setCell_other w ⟨g,i,none⟩ b x h]
end
section
open Go.RowKit
theorem oP {n:Nat} {es:List (Int×Int)} (hv:Si.Val n es) {j:Nat} (hj:j<2*es.length):∃e,es[j/2]? =some e/\Si.ok n e/\((j%2=0/\(Cs.fr es j:Int)=e.1/\(Cs.to es j:Int)=e.2)\/(j%2=1/\(Cs.fr es j:Int)=e.2/\(Cs.to es j:Int)=e.1)):=by
 obtain⟨e,he⟩:∃e,es[j/2]? =some e:=⟨_,aac (by omega)⟩;have hok:=hv.each _ e he;refine⟨e,he,hok,?_⟩;unfold Si.ok at hok;rcases abF j with h|h
 .left
  obtain⟨g1,g2⟩:=Cs.cY he;rw[show 2*(j/2)=j by omega] at g1 g2;exact⟨h,by omega,by omega⟩
 .right
  obtain⟨g1,g2⟩:=Cs.gw he;rw[show 2*(j/2)+1=j by omega] at g1 g2;exact⟨h,by omega,by omega⟩
end
section
open Go.Proofs.Tryz
open Go.RowKit Go.Sort
theorem vQ (n:Nat) (ao:Option Addr) (ca:Nat) (es:List (Int×Int)) (j:Nat) (w:World) (he:ah w ao es) (hv:Si.Val n es) (hj:j<2*es.length):
 Calls prog 87 #[.agg #[.int .i64 (n:Int),.slice ao es.length ca],.int .i64 (j:Int)] w fun e w'=>e= .returned (.int .i64 (Cs.to es j:Int))/\Below w.heap.size w w':=by
 have hb0:Below w.heap.size w (w.alloc (.cells #[.int .i64 (n:Int),.slice ao es.length ca] 24)):=(aae _ _).alloc (aad _) _;have bQ:=hv.few;obtain⟨e,hee,hok,hpar⟩:=oP hv hj;obtain⟨b,o,rfl,c0,c1⟩:=(he.later hb0) (j/2) e hee;obtain⟨jh,uu⟩:∃jh,jh=j/2:=⟨_,rfl⟩;rw[<-uu] at c0 c1 hee;have hj0:(0:Int)<=(j:Int):=by omega
 have htd:(j:Int).tdiv 2=(jh:Int):=by rw[abK hj0];omega
 have aaw:(j:Int)/2=(jh:Int):=by omega
 have hjd:j/2=jh:=uu.symm;have hj2:(0:Int)<=(jh:Int):=by omega
 have X4:(jh:Int)<(es.length:Int):=by omega
 have aH:=ζ hb0;rcases hpar with ⟨hm,hf,ht⟩|⟨hm,hf,ht⟩
 .have hm1:(j:Int).tmod 2=0:=by rw[abS hj0];omega
  have hm2:(j:Int)%2=0:=by omega
  rw[ht];clear he hv hok hee hb0 hf ht uu hm;go_enter func87,ntmps87;go_wp2;go_ret;exact⟨rfl,aH.out⟩
 .have hm1:(j:Int).tmod 2=1:=by rw[abS hj0];omega
  have hm2:(j:Int)%2=1:=by omega
  rw[ht];clear he hv hok hee hb0 hf ht uu hm;go_enter func87,ntmps87;go_wp2;go_ret;exact⟨rfl,aH.out⟩
theorem tP (n:Nat) (ao:Option Addr) (ca:Nat) (es:List (Int×Int)) (j:Nat) (w:World) (he:ah w ao es) (hv:Si.Val n es) (hj:j<2*es.length):
 Calls prog 256 #[.agg #[.int .i64 (n:Int),.slice ao es.length ca],.int .i64 (j:Int)] w fun e w'=>e= .returned (.int .i64 (Cs.fr es j:Int))/\Below w.heap.size w w':=by
 have hb0:Below w.heap.size w (w.alloc (.cells #[.int .i64 (n:Int),.slice ao es.length ca] 24)):=(aae _ _).alloc (aad _) _;have bQ:=hv.few;have Ri:=Cs.kS j (by omega);have hfr:=vQ n ao ca es (Cs.twin j) _ (he.later hb0) hv (Cs.eM hj);rw[Cs.AB] at hfr;have yh:=ζ hfr;have aH:=ζ hb0;clear he hv hb0 hfr;go_enter func256,ntmps256;go_wp2_with (go_at_call 87;refine yh.out.mono ?_;rintro e w1 ⟨rfl,hb1⟩);go_ret;exact⟨rfl,aH.out.trans (hb1.mono aH.out.size)⟩
theorem IU (n:Nat) (ao:Option Addr) (ca:Nat) (es:List (Int×Int)) (h:Int) (v:Nat) (w:World) (he:ah w ao es) (hv:Si.Val n es):
 Calls prog 254 #[.agg #[.int .i64 (n:Int),.slice ao es.length ca],.int .i64 h,.int .i64 (v:Int)] w fun e w'=>e= .returned (.bool (Ro.lv es h v))/\Below w.heap.size w w':=by
 have hb0:Below w.heap.size w (w.alloc (.cells #[.int .i64 (n:Int),.slice ao es.length ca] 24)):=(aae _ _).alloc (aad _) _;have bQ:=hv.few;have hin:=fun j hj=>tP n ao ca es j _ (he.later hb0) hv hj
 have yg:=ζ hin;have aH:=ζ hb0;clear he hv hb0 hin;have hmul:IntKind.i64.wrap (2*(es.length:Int))=2*(es.length:Int):=by rw[aam];omega
 by_cases h0:0<=h
 .by_cases h1:h<2*(es.length:Int)
  .obtain⟨j,rfl⟩:∃j:Nat,h=(j:Int):=⟨h.toNat,by omega⟩
   have hj:j<2*es.length:=by omega
   have hlv:Ro.lv es (j:Int) v=((Cs.fr es j:Int)==(v:Int)):=by
    unfold Ro.lv;rw[Cs.oV hj,decide_eq_true h0,decide_eq_true h1];rfl
   rw[hlv];have HJ:=ζ (yg.out j hj);clear hlv hmul;go_enter func254,ntmps254;go_wp2_with (go_at_call 256;refine HJ.out.mono ?_;rintro e w1 ⟨rfl,hb1⟩);go_ret;exact⟨rfl,aH.out.trans (hb1.mono aH.out.size)⟩
  .have hlv:Ro.lv es h v=false:=by simp[Ro.lv,h1]
   rw[hlv];clear hlv;go_enter func254,ntmps254;go_wp2;go_ret;exact⟨rfl,aH.out⟩
 .have hlv:Ro.lv es h v=false:=by simp[Ro.lv,h0]
  rw[hlv];clear hlv;go_enter func254,ntmps254;go_wp2;go_ret;exact⟨rfl,aH.out⟩
end
end Go.Proofs.YtdbjpbjocmcpkaaGreatDoor
