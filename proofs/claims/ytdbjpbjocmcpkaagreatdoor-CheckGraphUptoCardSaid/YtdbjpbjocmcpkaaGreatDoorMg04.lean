import Derived.Test.YtdbjpbjocmcpkaaGreatDoorMg03
import Derived.Defers
import Derived.Recover
import Derived.ArgAppend
import Derived.Deep.DeepAppendRoom
set_option maxHeartbeats 4000000
set_option maxRecDepth 100000
namespace Go.Proofs.YtdbjpbjocmcpkaaGreatDoor
section
open Go.RowKit
theorem Tryz.Rh:(Tryz.prog.info? 186).map (fun i=>(i.zero,i.size,i.bytes))=some (some (.agg #[.int .i64 0,.int .i64 0,.int .i64 0,.int .i64 0]),4,32):=by kernel_rfl
def E7 (arr:Array Value) (us:List Nu.Tok):Prop:=
 ∀j t,us[j]? =some t->arr[j*4]? =some (.int .i64 t.kind)/\arr[j*4+1]? =some (.int .i64 t.at')/\arr[j*4+2]? =some (.int .i64 t.fin)/\arr[j*4+3]? =some (.int .i64 t.num)
def gR (W:World) (T m:Nat) (us:List Nu.Tok):Prop:=
 ∃arr,W.heap[T]? =some (.cells arr 186 (0,0))/\arr.size=m*4/\E7 arr us
def oz (w:World) (B o:Nat) (a b c d:Value):World:=(((w.setCell ⟨B,o,none⟩ a).setCell ⟨B,o+1,none⟩ b).setCell ⟨B,o+2,none⟩ c).setCell ⟨B,o+3,none⟩ d
theorem tF {w:World} {B k:Nat} (hk:k≠B) (o:Nat) (a b c d:Value):(oz w B o a b c d).heap[k]? =w.heap[k]? :=by
 unfold oz;rw[heap_setCell_other _ ⟨B,o+3,none⟩ k d hk,heap_setCell_other _ ⟨B,o+2,none⟩ k c hk,heap_setCell_other _ ⟨B,o+1,none⟩ k b hk,heap_setCell_other _ ⟨B,o,none⟩ k a hk]
theorem FP (w:World) (B o:Nat) (a b c d:Value):(oz w B o a b c d).heap.size=w.heap.size:=by simp[oz]
theorem FQ {w:World} {B:Nat} {t:TypeId} {arr:Array Value} (h:w.heap[B]? =some (.cells arr t (0,0))) (o:Nat) (a b c d:Value):
 (oz w B o a b c d).heap[B]? =some (.cells ((((arr.setIfInBounds o a).setIfInBounds (o+1) b).setIfInBounds (o+2) c).setIfInBounds (o+3) d) t (0,0)):=by
 have h1:=heap_setCell_same w B o _ t a h;have h2:=heap_setCell_same _ B (o+1) _ t b h1;have h3:=heap_setCell_same _ B (o+2) _ t c h2;exact heap_setCell_same _ B (o+3) _ t d h3
theorem gR.push {w:World} {T m:Nat} {arr:Array Value} {us:List Nu.Tok} (har:w.heap[T]? =some (.cells arr 186 (0,0))) (hsz:arr.size=m*4) (hac:E7 arr us) (hlt:us.length<m) (t:Nu.Tok):
 gR (oz w T (us.length*4) (.int .i64 t.kind) (.int .i64 t.at') (.int .i64 t.fin) (.int .i64 t.num)) T m (us++[t]):=by
 refine⟨_,FQ har _ _ _ _ _,by simpa using hsz,fun j u hj=> ?_⟩;by_cases hlt':j<us.length
 .rw[aaH hlt'] at hj
  obtain⟨h0,h1,h2,h3⟩:=hac j u hj;refine⟨?_,?_,?_,?_⟩
  all_goals
   rw[abr (by omega),abr (by omega),abr (by omega),abr (by omega)]
   assumption
 .have hj':j=us.length:=by
   have h:=(aah.1 hj).1;simp at h;omega
  subst hj';simp at hj;subst hj;refine⟨?_,?_,?_,?_⟩
  .rw[abr (by omega),abr (by omega),abr (by omega),acm (by omega)]
  .rw[abr (by omega),abr (by omega),acm (by simp;omega)]
  .rw[abr (by omega),acm (by simp;omega)]
  .rw[acm (by simp;omega)]
theorem zS {w0 w:World} {r:Option Nat} (h:w0.grownBy w r) {B:Nat} (hB:w0.heap.size<=B) (o:Nat) (x0 x1 x2 x3:Value):w0.grownBy (oz w B o x0 x1 x2 x3) r:=
 ⟨h.os,h.tape,h.output,by rw[FP];exact h.size,fun k hk hne=>(tF (by omega) o x0 x1 x2 x3).trans (h.block k hk hne)⟩
theorem JN (ao:Option Addr) (n cap:Nat) (g:Nat->Int) (ts:List Nu.Tok) (w:World) (ht:aY w ao n g) (ha:Apart ao w.heap.size) (hn:n<=33554432) (hcap:n<=cap) (xI:Nu.scan g n= .ok ts):
 Calls Tryz.prog 106 #[.slice ao n cap,.int .i64 ts.length] w fun e w'=>
  ∃T,e= .returned (.slice (some ⟨T,0,none⟩) ts.length ts.length)/\w.heap.size<=T/\gR w' T ts.length ts/\w.grownBy w' none:=by
 have hlen:=Nu.vv xI;obtain⟨i0,hi,hz0,hz1,hz2⟩:=info_parts Tryz.Rh;have KG:=ζ xI;have HT:=ζ ht;clear xI ht;go_enter Tryz.func106,Tryz.ntmps106;go_wp2_with (at_make;refine wpList_make_full _ rfl _ _ 124 rfl w.heap.size 186 i0 (.agg #[.int .i64 0,.int .i64 0,.int .i64 0,.int .i64 0]) 4 Tryz.underlying124 hi hz0 hz1 .i64 .i64 _ _ ts.length rfl rfl rfl rfl (by rw[hz2];omega) (by unfold maxLen;omega) (by simp) ?_;intro w1 hown hgrow;refine aaj ?_);refine ζ ?_;have hT:(w.alloc (.cells #[.slice ao n cap,.int .i64 0] 254)).heap.size=w.heap.size+1:=by simp
 rw[hT] at hown;have hrow:gR w1 (w.heap.size+1) ts.length []:=by
  rcases hown.2 with ⟨h,_⟩|⟨gb,c,cur,e,_,hh,_,_,hsz,_⟩
  .cases h
  .cases e
   exact⟨cur,hh,hsz,fun j t h=>by simp at h⟩
 have hs1:eG w1 w.heap.size ao n cap 0:=eG.kept (r:=none) (heap_alloc_new w _) hgrow (by simp);have hg1:w.grownBy w1 none:=dD (acn w _ none) hgrow;have gL:=ζ hg1;have uT:=ζ hs1;have HR:=ζ hrow;clear hg1 hs1 hrow hown hgrow hT;go_wp2;go_loopw [14] (fun c wr=>∃(us vs:List Nu.Tok) (p k:Nat),ts=us++vs/\p<=n/\Nu.dh g n k p= .ok vs/\c= .int .i64 us.length/\eG wr w.heap.size ao n cap p/\gR wr (w.heap.size+1) ts.length us/\w.grownBy wr none) (fun c _=>ts.length-(intOf c).toNat)
 case atStart=>exact⟨[],ts,0,n+1,rfl,aax _,KG.out,rfl,uT.out,HR.out,gL.out⟩
 case round=>
  obtain⟨us,vs,p,k,hts,hp,XF,rfl,hs,hr,hg⟩:=hrel;have hl:ts.length=us.length+vs.length:=by rw[hts];simp
  cases vs with
  |nil=>
   have hd:¬((us.length:Int)<(ts.length:Int)):=by simp at hl;omega
   have uS:=ζ hts;clear hts hl XF;go_wp2;go_ret;have e:=uS.out;rw[abQ] at e;subst e;exact⟨_,rfl,by omega,hr,hg⟩
  |cons t vs=>
   have hlt:(us.length:Int)<(ts.length:Int):=by simp at hl;omega
   have hle:us.length<ts.length:=by simp at hl;omega
   obtain⟨p',sH,hp',k',VL⟩:=Nu.H7 hp XF;have uS:=ζ hts;have gS:=ζ sH;have HSF:=ζ VL;have ru:=ζ hr;have HG:=ζ hg;clear hts hl XF sH VL hr hg;go_wp2_with (go_at_call 153;refine(EH w.heap.size ao n cap p g _ hs (HT.out.Ae HG.out) ha hp hn hcap).mono ?_;refine aaj ?_);refine ζ ?_;rintro e w2 ⟨hg2,hx⟩;rcases hx with ⟨t2,p2,Jr,rfl,hs2⟩|⟨x,Jr,rfl⟩
   .rw[gS.out] at Jr
    cases Jr;obtain⟨arr,har,abD,hac⟩:=ru.out;have NR:w2.heap[w.heap.size+1]? =some (.cells arr 186 (0,0)):=(hg2.block _ (lt_of_block har) (by simp)).trans har;have cZ:=ζ (wo HG.out (aad _) hg2);have D6:=ζ hs2;have HAR:=ζ NR;have HAC:=ζ hac;have f0:∀i,w2.frozen? ⟨w.heap.size+1,i,none⟩=false:=fun i=>by simp[World.frozen?,NR]
    have hc:∀i,i<ts.length*4->∃v,w2.cell? ⟨w.heap.size+1,i,none⟩=some v:=fun i hi=>⟨arr[i]'(by omega),by rw[cell_of_row w2 _ i arr _ _ NR];simp⟩
    obtain⟨v0,c0⟩:=hc (us.length*4) (by omega);obtain⟨v1,c1⟩:=hc (us.length*4+1) (by omega);obtain⟨v2,c2⟩:=hc (us.length*4+2) (by omega);obtain⟨v3,c3⟩:=hc (us.length*4+3) (by omega);clear hg2 hs2 NR hac hc har hs;unfold Ei;go_wp2;go_roundw
    case rel=>
     refine⟨us++[t],vs,p',k',by rw[uS.out];simp,hp',HSF.out,by simp,?_,?_,?_⟩
     .exact(tF (w:=w2) (by omega) (us.length*4) _ _ _ _).trans D6.out
     .exact gR.push HAR.out abD HAC.out hle t
     .exact zS cZ.out (by omega) (us.length*4) _ _ _ _
    case measure=>simp[intOf];omega
   .rw[gS.out] at Jr
    cases Jr
end
section
open Go.Proofs.Tryz
open Go.RowKit
theorem Kn (p q r:Addr) (w:World):
 CallsD prog 105 #[.pointer (some p),.pointer (some q),.pointer (some r)] .returning w fun e u' w'=>e= .returned (.tuple #[])/\u'= .returning/\w'=w:=by
 refine callsD_of_wpS func105 rfl fun c₀ cs hu=> ?_
 apply wpS_seq;apply wpS_region;simp[wpOpsS,go_sem,recoverD,hu,ntmps105,Exit.thenS];refine wpS_of_wp ?_;go_wp2;cases c₀
 simp_all[bodyPostS,results,results105]
structure qZ (w:World) (A:Nat) (s:Value) (at' code:Int):Prop where
 toks:w.heap[A]? =some (.cells #[s] 124 (0,0))
 place:w.heap[A+1]? =some (.cells #[.int .i64 at'] 3 (0,0))
 code:w.heap[A+2]? =some (.cells #[.int .i64 code] 29 (0,0))
def nC (w:World) (A:Nat) (s:Value) (a c:Int):World:=((w.setCell ⟨A,0,none⟩ s).setCell ⟨A+1,0,none⟩ (.int .i64 a)).setCell ⟨A+2,0,none⟩ (.int .i64 c)
theorem qZ.nC {w:World} {A:Nat} {s s':Value} {a c a' c':Int} (h:qZ w A s a c):qZ (nC w A s' a' c') A s' a' c':=by
 refine⟨?_,?_,?_⟩
 .unfold Go.Proofs.YtdbjpbjocmcpkaaGreatDoor.nC
  rw[heap_setCell_other _ ⟨A+2,0,none⟩ A _ (by simp),heap_setCell_other _ ⟨A+1,0,none⟩ A _ (by simp)];exact one_setCell h.toks
 .unfold Go.Proofs.YtdbjpbjocmcpkaaGreatDoor.nC
  rw[heap_setCell_other _ ⟨A+2,0,none⟩ (A+1) _ (by simp)];refine one_setCell (v:= .int .i64 a) ?_;rw[heap_setCell_other _ ⟨A,0,none⟩ (A+1) _ (by simp)];exact h.place
 .unfold Go.Proofs.YtdbjpbjocmcpkaaGreatDoor.nC
  refine one_setCell (v:= .int .i64 c) ?_;rw[heap_setCell_other _ ⟨A+1,0,none⟩ (A+2) _ (by simp),heap_setCell_other _ ⟨A,0,none⟩ (A+2) _ (by simp)];exact h.code
theorem yC (w:World) (A:Nat) (s:Value) (a c:Int) (k:Nat) (hk:k<A\/A+2<k):(nC w A s a c).heap[k]? =w.heap[k]? :=by
 unfold nC;rw[heap_setCell_other _ ⟨A+2,0,none⟩ k _ (by simp;omega),heap_setCell_other _ ⟨A+1,0,none⟩ k _ (by simp;omega),heap_setCell_other _ ⟨A,0,none⟩ k _ (by simp;omega)]
theorem AY (w:World) (A:Nat) (s:Value) (a c:Int):(nC w A s a c).heap.size=w.heap.size:=by simp[nC]
theorem yD (w:World) (A:Nat) (s:Value) (a c:Int):Below A w (nC w A s a c):=
 ⟨rfl,rfl,rfl,by rw[AY];exact aad _,fun k hk=>yC w A s a c k (.inl hk)⟩
theorem qZ.alloc {w:World} {A:Nat} {s:Value} {a c:Int} (h:qZ w A s a c) (o:Obj):qZ (w.alloc o) A s a c:=
 ⟨(aaF w o A (lt_of_block h.toks)).trans h.toks,(aaF w o (A+1) (lt_of_block h.place)).trans h.place,(aaF w o (A+2) (lt_of_block h.code)).trans h.code⟩
theorem qZ.drew {w:World} {A:Nat} {s:Value} {a c:Int} (h:qZ w A s a c):qZ w.drew A s a c:=⟨h.toks,h.place,h.code⟩
theorem qZ.grown {w w':World} {A:Nat} {s:Value} {a c:Int} (h:qZ w A s a c) (hg:w.grownBy w' none):qZ w' A s a c:=
 ⟨(hg.block A (lt_of_block h.toks) (by simp)).trans h.toks,(hg.block (A+1) (lt_of_block h.place) (by simp)).trans h.place,(hg.block (A+2) (lt_of_block h.code) (by simp)).trans h.code⟩
theorem GL (A:Nat) (s:Value) (a c:Int) (x:Nat×Int) (w:World) (hr:qZ w A s a c):
 CallsD prog 105 #[.pointer (some ⟨A,0,none⟩),.pointer (some ⟨A+1,0,none⟩),.pointer (some ⟨A+2,0,none⟩)] (.panicking [{ v:=wu x,recovered:=false }]) w fun e u' w'=>
  e= .returned (.tuple #[])/\u'= .panicking [{ v:=wu x,recovered:=true }]/\qZ w' A (.slice none 0 0) x.1 x.2/\Below A w w':=by
 have c0:=cell_of_one hr.toks;have c1:=cell_of_one hr.place;have c2:=cell_of_one hr.code;have f0:=free_of_one hr.toks;have f1:=free_of_one hr.place;have f2:=free_of_one hr.code;have l2:=lt_of_block hr.code;have l1:=lt_of_block hr.place;have l0:=lt_of_block hr.toks;have Gh:∀(v:Value) (w:World),(Instr.typeAssert (.iface 179 v) 20 179 true).run prog w= .ok (.tuple #[v,.bool true]) w:=fun _ _=>by kernel_rfl
 refine callsD_of_wpS func105 rfl fun c₀ cs hu=> ?_
 unfold wu at hu ⊢;apply wpS_seq;apply wpS_region;simp[wpOpsS,go_sem,recoverD,hu,ntmps105,Exit.thenS,Array.replicate];refine wpS_of_wp ?_;have HR:=ζ hr;clear hr;go_wp2
 go_region
 go_wp2;exact⟨rfl,_,rfl,.tuple #[],by simp[results,results105],rfl,rfl,(HR.out.nC (s':= .slice none 0 0) (a':=x.1) (c':=x.2)).alloc _ |>.drew,(yD w A (.slice none 0 0) x.1 x.2).trans (((aae A _).alloc (by rw[AY];omega) _).drew)⟩
end
section
open Go.Proofs.Tryz
open Go.RowKit
def Qa (n:Nat) (g:Nat->Int) (w:World) (e:Ending) (w':World):Prop:=
 Below w.heap.size w w'/\
 ((33554432<n/\e= .returned (.tuple #[.slice none 0 0,.int .i64 33554432,.int .i64 10]))\/
  (n<=33554432/\∃x,Nu.scan g n= .error x/\e= .returned (.tuple #[.slice none 0 0,.int .i64 x.1,.int .i64 x.2]))\/
  (n<=33554432/\∃ts T,Nu.scan g n= .ok ts/\e= .returned (.tuple #[.slice (some ⟨T,0,none⟩) ts.length ts.length,.int .i64 0,.int .i64 0])/\w.heap.size<=T/\gR w' T ts.length ts))
theorem pS {w w':World} (h:w.grownBy w' none):Below w.heap.size w w':=⟨h.os,h.tape,h.output,h.size,fun k hk=>h.block k hk (by simp)⟩
theorem Ie (w:World) (s:Value) (a c:Int):qZ (((w.alloc (.cells #[s] 124)).alloc (.cells #[.int .i64 a] 3)).alloc (.cells #[.int .i64 c] 29)) w.heap.size s a c:=by
 refine⟨?_,?_,?_⟩
 .rw[aaF _ _ _ (by simp;omega),aaF _ _ _ (by simp)]
  exact heap_alloc_new w _
 .rw[aaF _ _ _ (by simp)]
  have:=heap_alloc_new (w.alloc (.cells #[s] 124)) (.cells #[.int .i64 a] 3);simpa using this
 .have:=heap_alloc_new ((w.alloc (.cells #[s] 124)).alloc (.cells #[.int .i64 a] 3)) (.cells #[.int .i64 c] 29)
  simpa using this
theorem mU (tmps:Array Value) (W:World) (A:Nat) (s:Value) (a c:Int) (h2:tmps.getD 2 undef= .pointer (some ⟨A,0,none⟩)) (h3:tmps.getD 3 undef= .pointer (some ⟨A+1,0,none⟩)) (h4:tmps.getD 4 undef= .pointer (some ⟨A+2,0,none⟩)) (hr:qZ W A s a c):
 (results Tryz.f67 tmps).run prog W= .ok (.tuple #[s,.int .i64 a,.int .i64 c]) W:=by
 have c0:=cell_of_one hr.toks;have c1:=cell_of_one hr.place;have c2:=cell_of_one hr.code;have k2:tmps[2]?.getD undef= .pointer (some ⟨A,0,none⟩):=by simpa using h2
 have k3:tmps[3]?.getD undef= .pointer (some ⟨A+1,0,none⟩):=by simpa using h3
 have k4:tmps[4]?.getD undef= .pointer (some ⟨A+2,0,none⟩):=by simpa using h4
 simp[results,results67,go_sem,k2,k3,k4,c0,c1,c2]
theorem Oz (ao:Option Addr) (n cap:Nat) (g:Nat->Int) (w:World) (ht:aY w ao n g) (hao:∀x,ao=some x->x.block<w.heap.size) (hn:n<=maxLen) (hcap:n<=cap):
 Calls prog 67 #[.slice ao n cap] w (Qa n g w):=by
 unfold maxLen at hn;have XR:∀(fn:Fn) (first cap:Array Value) (w:World),(Instr.makeFunc fn first cap).run prog w= .ok (.func fn first cap) w:=fun _ _ _ _=>rfl
 by_cases hA:33554432<n
 .have j0:(33554432:Int)<(n:Int):=by omega
  go_enter_defers func67,ntmps67
  go_wp2;have hres:qZ (((w.alloc (.cells #[.slice none 0 0] 124)).alloc (.cells #[.int .i64 33554432] 3)).alloc (.cells #[.int .i64 10] 29)) w.heap.size (.slice none 0 0) 33554432 10:=Ie w _ _ _;refine⟨_,mU _ _ w.heap.size _ _ _ rfl rfl rfl hres,?_,.inl ⟨hA,rfl⟩⟩;exact(((aae _ _).alloc (aad _) _).alloc (by simp) _).alloc (by simp;omega) _
 .have j0:¬((33554432:Int)<(n:Int)):=by omega
  go_enter_defers func67,ntmps67
  have hres:=Ie w (.slice none 0 0) 0 0;have hg0:w.grownBy (((w.alloc (.cells #[.slice none 0 0] 124)).alloc (.cells #[.int .i64 0] 3)).alloc (.cells #[.int .i64 0] 29)) none:=dO (dO (acn w _ none) _) _;have Rs:=ht.Ae hg0;have hsz:(((w.alloc (.cells #[.slice none 0 0] 124)).alloc (.cells #[.int .i64 0] 3)).alloc (.cells #[.int .i64 0] 29)).heap.size=w.heap.size+3:=by simp
  have HS:=ζ hsz;have j4:=ζ hg0;have Vr:=ζ Rs;have zq:=ζ hres;clear hsz hg0 Rs hres ht;go_wp2_with fail;refine(J8 ao n cap g _ Vr.out (fun x hx=>by rw[HS.out];have:=hao x hx;omega) (by omega) hcap).mono ?_;rintro e w1 ⟨hg1,hx⟩;have LY:=zq.out.grown hg1;have hb1:Below w.heap.size w w1:=pS (dD j4.out hg1);have hs1:w.heap.size+3<=w1.heap.size:=by rw[<-HS.out];exact hg1.size
  rcases hx with ⟨ts,hsc,rfl⟩|⟨x,hsc,rfl⟩
  .have vV:=Vr.out.Ae hg1
   have zV:=ζ vV;have pH:=ζ LY;have aI:=ζ hb1;have KG:=ζ hsc;clear vV LY hb1 hg1 hsc;go_wp2_with (go_at_call 106;refine(JN ao n cap g ts _ zV.out (fun x hx=>by have:=hao x hx;omega) (by omega) hcap KG.out).mono ?_;refine aaj ?_);refine ζ ?_;rintro e w2 ⟨T,rfl,hT,hrow,hg2⟩;have hres2:=pH.out.grown hg2;have c0:=cell_of_one hres2.toks;have c1:=cell_of_one hres2.place;have c2:=cell_of_one hres2.code;have f0:=free_of_one hres2.toks;have f1:=free_of_one hres2.place;have f2:=free_of_one hres2.code;have oh:=ζ hres2;have gB:=ζ hrow;have aB:=ζ (aI.out.trans ((pS hg2).mono (by omega)));clear hres2 hrow hg2;go_wp2;have hput:gR (nC w2 w.heap.size (.slice (some ⟨T,0,none⟩) ts.length ts.length) 0 0) T ts.length ts:=by
    obtain⟨arr,h1,h2⟩:=gB.out;exact⟨arr,(yC _ _ _ _ _ T (.inr (by omega))).trans h1,h2⟩
   refine leaves_cons (f:=105) (args:= #[.pointer (some ⟨w.heap.size,0,none⟩),.pointer (some ⟨w.heap.size+1,0,none⟩),.pointer (some ⟨w.heap.size+1+1,0,none⟩)]) (by simp) (by simp[go_sem]) ?_;refine(Kn _ _ _ _).mono ?_;rintro e u' w3 ⟨rfl,rfl,rfl⟩;exact⟨_,mU _ _ w.heap.size _ _ _ rfl rfl rfl (oh.out.nC (s':= .slice (some ⟨T,0,none⟩) ts.length ts.length) (a':=0) (c':=0)),aB.out.trans (yD _ _ _ _ _),.inr (.inr ⟨by omega,ts,T,KG.out,rfl,by omega,hput⟩)⟩
  .refine leaves_cons (f:=105) (args:= #[.pointer (some ⟨w.heap.size,0,none⟩),.pointer (some ⟨w.heap.size+1,0,none⟩),.pointer (some ⟨w.heap.size+1+1,0,none⟩)]) (by simp) (by simp[go_sem]) ?_
   refine(GL w.heap.size _ _ _ x w1 LY).mono ?_;rintro e u' w3 ⟨rfl,rfl,LX,hb3⟩;exact⟨_,mU _ _ w.heap.size _ _ _ rfl rfl rfl LX,hb1.trans hb3,.inr (.inl ⟨by omega,x,hsc,rfl⟩)⟩
end
section
namespace Ce
open Nu
section
end
def cA (L:List UInt8) (i:Nat):Int:=match L[i]? with|some x=>(x.toNat:Int)|none=> -1
end Ce
end
section
open Go.Proofs.Tryz
open Go.RowKit
section
end
theorem oA (x:Int) (w:World):Calls prog 334 #[.int .i64 x] w fun e w'=>e= .returned (.bool (decide (0<=x/\x<=999999999)))/\w'=w:=by
 by_cases h0:0<=x
 .by_cases h1:x<=999999999
  .rw[decide_eq_true ⟨h0,h1⟩]
   go_enter func334,ntmps334;go_wp2;go_ret;exact⟨rfl,rfl⟩
  .rw[decide_eq_false (fun h=>h1 h.2)]
   go_enter func334,ntmps334;go_wp2;go_ret;exact⟨rfl,rfl⟩
 .rw[decide_eq_false (fun h=>h0 h.1)]
  go_enter func334,ntmps334;go_wp2;go_ret;exact⟨rfl,rfl⟩
theorem S0 (a b c d:Int) (w:World):Calls prog 227 #[.agg #[.int .i64 a,.int .i64 b],.agg #[.int .i64 c,.int .i64 d]] w fun e w'=>e= .returned (.bool (decide (c<a\/(c=a/\d<b))))/\Below w.heap.size w w':=by
 by_cases h0:c<a
 .rw[decide_eq_true (.inl h0)]
  go_enter func227,ntmps227;go_wp2;go_ret;exact⟨rfl,((aae _ _).alloc (aad _) _).alloc (by simp) _⟩
 .by_cases h1:c=a
  .subst h1
   by_cases h2:d<b
   .rw[decide_eq_true (.inr ⟨rfl,h2⟩)]
    go_enter func227,ntmps227;go_wp2;go_ret;exact⟨rfl,((aae _ _).alloc (aad _) _).alloc (by simp) _⟩
   .rw[decide_eq_false (by omega)]
    go_enter func227,ntmps227;go_wp2;go_ret;exact⟨rfl,((aae _ _).alloc (aad _) _).alloc (by simp) _⟩
  .have h3:(a==c)=false:=by simp;omega
   rw[decide_eq_false (by omega)];go_enter func227,ntmps227;go_wp2;go_ret;exact⟨rfl,((aae _ _).alloc (aad _) _).alloc (by simp) _⟩
end
section
open Go.Proofs.Tryz
open Go.RowKit
theorem tG {w:World} {ao:Option Addr} {c:Nat} {ls:List (List Int)} (h:Ce.fC w ao ls) (hs:ls.length<=4611686018427387904) (hl:∀l∈ls,l.length<=4611686018427387904):
 Calls prog 333 #[.slice ao ls.length c] w fun e w'=>Ce.Says e (Ce.yG ls)/\Below w.heap.size w w':=by
 obtain⟨n,hn⟩:∃n,ls.length=n:=⟨_,rfl⟩;rw[hn] at hs ⊢;have HS:=ζ h;have HL:=ζ hl;have HN:=ζ hn;clear h hl hn;by_cases hc:1048576<n
 .have sK:(1048576:Int)<(n:Int):=by omega
  go_enter func333,ntmps333;go_wp2;go_ret;exact⟨Ce.Says.no fun h=>by have:=h.2;have:=HN.out;omega,aae _ _⟩
 .have sK:¬((1048576:Int)<(n:Int)):=by omega
  go_enter func333,ntmps333;go_wp2;go_loopw [12] (fun iv wr=>∃k:Nat,k<=n/\iv= .int .i64 (k:Int)/\(∀i l,i<k->ls[i]? =some l->Ce.Iy l)/\Below w.heap.size w wr) (fun iv _=>n-(intOf iv).toNat)
  case atStart=>exact⟨0,aax _,rfl,fun i l h=>by omega,aae _ _⟩
  case round=>
   obtain⟨k,hk,rfl,hok,cm⟩:=hrel;have fX:=ζ hok;have cH:=ζ cm;clear hok;by_cases hlt:k<n
   .have aQ:(k:Int)<(n:Int):=by omega
    obtain⟨l,hl⟩:∃l,ls[k]? =some l:=⟨_,aac (by have:=HN.out;omega)⟩;have dW:=HL.out l (aai hl);obtain⟨b,o,xa,xc,rfl,c0,oL⟩:=(HS.out.later cm) k l hl;obtain⟨m,hm⟩:∃m,l.length=m:=⟨_,rfl⟩;have ew:=ζ hl;have HM:=ζ hm;have Qp:=ζ oL;rw[hm] at dW c0;have k0:(0:Int)<=(k:Int):=by omega
    clear hl hm oL cm;go_wp2;go_loopw [18] (fun jv wx=>∃j:Nat,j<=m/\jv= .int .i64 (j:Int)/\(∀i x,i<j->l[i]? =some x->Ce.dH x/\l.headD 0<=x)/\wx=wr) (fun jv _=>m-(intOf jv).toNat)
    case atStart=>exact⟨0,aax _,rfl,fun i x h=>by omega,rfl⟩
    case round=>
     obtain⟨j,hj,rfl,Jq,rfl⟩:=hrel;have KM:=ζ Jq;have j0:(0:Int)<=(j:Int):=by omega
     clear Jq;by_cases R1:j<m
     .have Jv:(j:Int)<(m:Int):=by omega
      have hm0:(0:Int)<(m:Int):=by omega
      obtain⟨x,hx⟩:∃x,l[j]? =some x:=⟨_,aac (by have:=HM.out;omega)⟩;obtain⟨y,hy⟩:∃y,l[0]? =some y:=⟨_,aac (by have:=HM.out;omega)⟩;have hy0:l.headD 0=y:=by
       cases l with
       |nil=>cases hy
       |cons a r=>cases hy;rfl
      obtain⟨xb,xo,rfl,d0⟩:=Qp.out j x hx;obtain⟨ZP,W8,e',d1⟩:=Qp.out 0 y hy;cases e';rw[abN] at d1;have HX:=ζ hx;have S8:=ζ hy0;clear hx hy hy0;by_cases hxy:x<y
      .have cG:Hid (¬Ce.Iy l):=fun h=>by
        have:=(h x (aai HX.out)).2;have:=S8.out;omega
       go_wp2;go_ret;exact⟨Ce.Says.no fun h=>cG.out (h.1 l (aai ew.out)),cH.out⟩
      .by_cases hn1:0<=x/\x<=999999999
       .have gS:Hid (Ce.dH x):=hn1
        have HD:Hid (∀W,Calls prog 334 #[.int .i64 x] W fun e w'=>e= .returned (.bool true)/\w'=W):=fun W=>by have:=oA x W;rwa[decide_eq_true hn1] at this
        clear hn1;go_wp2_with (go_at_call 334;refine(HD.out _).mono ?_;rintro e w' ⟨rfl,hw'⟩;obtain rfl:=hw'.symm;clear hw');go_roundw
        case rel=>
         refine⟨j+1,by omega,by go_num,fun i z hi hz=> ?_,trivial⟩;by_cases hij:i=j
         .subst hij
          rw[HX.out] at hz;cases hz;exact⟨gS.out,by have:=S8.out;omega⟩
         .exact KM.out i z (by omega) hz
        case measure=>simp[intOf];omega
       .have cG:Hid (¬Ce.Iy l):=fun h=>hn1 (h x (aai HX.out)).1
        have HD:Hid (∀W,Calls prog 334 #[.int .i64 x] W fun e w'=>e= .returned (.bool false)/\w'=W):=fun W=>by have:=oA x W;rwa[decide_eq_false hn1] at this
        clear hn1;go_wp2_with (go_at_call 334;refine(HD.out _).mono ?_;rintro e w' ⟨rfl,hw'⟩;obtain rfl:=hw'.symm;clear hw');go_ret;exact⟨Ce.Says.no fun h=>cG.out (h.1 l (aai ew.out)),cH.out⟩
     .have Jv:¬((j:Int)<(m:Int)):=by omega
      go_wp2;go_roundw
      case rel=>
       refine⟨k+1,by omega,by go_num,fun i z hi hz=> ?_,cH.out⟩;by_cases hik:i=k
       .subst hik
        rw[ew.out] at hz;cases hz;intro x hx;obtain⟨u,hu⟩:=aaS hx;exact KM.out u x (by have:=HM.out;have:=(aah.1 hu).1;omega) hu
       .exact fX.out i z (by omega) hz
      case measure=>simp[intOf];omega
   .have aQ:¬((k:Int)<(n:Int)):=by omega
    obtain rfl:k=n:=by omega
    go_wp2;go_ret;refine⟨Ce.Says.yes ⟨fun l hl=> ?_,by have:=HN.out;omega⟩,cH.out⟩;obtain⟨i,hi⟩:=aaS hl;exact fX.out i l (by have:=HN.out;have:=(aah.1 hi).1;omega) hi
end
section
open Go.RowKit
theorem uK:Tryz.prog.cellsOf 66=2:=by kernel_rfl
theorem uJ:Tryz.prog.cellsOf 3=1:=by kernel_rfl
def fW (e:Int×Int):Prop:=(-9223372036854775808<=e.1/\e.1<=9223372036854775807)/\-9223372036854775808<=e.2/\e.2<=9223372036854775807
theorem Qs {x:Int} (h: -9223372036854775808<=x/\x<=9223372036854775807):(Lit.int .i64 x).wf=true:=WalkArith.wf_i64 (by omega)
end
section
open Go.Proofs.Tryz
open Go.ChangeShapes Go.WideShapes Go.ChangeAt Go.RowKit
theorem MJ:prog.bytesOf 66=16:=by kernel_rfl
theorem ze:prog.cellsOf 22=1:=by kernel_rfl
section
variable {H:Type} {enc:TypeId×Value->H} {W:World} {base:Nat} {sp:Nat->Bool} {held:Bool}
def wI (cs:List Value):Prop:=∃a b:Int,cs=[.int .i64 a,.int .i64 b]/\fW (a,b)
theorem Fp {fuel:Nat} {cs:List Value} {x y:DataW H×List MemPlace} (hl:cs.length=2) (h0:DataW.trod enc prog W base sp held fuel 3 ((cs.drop 0).take 1)=some x) (h1:DataW.trod enc prog W base sp held fuel 3 ((cs.drop 1).take 1)=some y):wI cs:=by
 match cs,hl with
 |[u,v],_=>
  obtain⟨a,e0,_,w0⟩:=DataW.trod_int Tryz.underlying3 h0;obtain⟨b,e1,_,w1⟩:=DataW.trod_int Tryz.underlying3 h1;simp at e0 e1;subst e0;subst e1;exact⟨a,b,rfl,bounds_i64 w0,bounds_i64 w1⟩
theorem Hq {e:TypeId} {f0 f1:Field} (he:prog.underlying e=some (.struct #[f0,f1])) (ce:prog.cellsOf e=2) (o0:f0.offset=0) (o1:f1.offset=1) (t0:f0.type=3) (t1:f1.type=3)
 {fuel:Nat} {cs:List Value} {x:DataW H×List MemPlace} (h:DataW.trod enc prog W base sp held fuel e cs=some x):wI cs:=by
 obtain⟨xs,m,_,_,hl,hx,hf⟩:=aer he h;rw[ce] at hl
 match xs,hx with
 |[y0,y1],_=>
  have g0:=hf 0 f0 rfl;have g1:=hf 1 f1 rfl;simp only[o0,o1,t0,t1,uJ] at g0 g1;exact Fp hl g0 g1
theorem Eh {fuel:Nat} {cs:List Value} {x:DataW H×List MemPlace} (h:DataW.trod enc prog W base sp held fuel 66 cs=some x):wI cs:=Hq Tryz.underlying66 uK rfl rfl rfl rfl h
structure CM (w:World) (ao:Option Addr) (len cap:Nat) (qs:List (Int×Int)):Prop where
 hlen:qs.length=len
 hat:ah w ao qs
 hnil:ao=none->qs=[]/\cap=0
 hwf:∀(j:Nat) (p:Int×Int),qs[j]? =some p->fW p
 hfit:len<=cap
theorem EB {t e:TypeId} {fuel:Nat} {a:Option Addr} {len cap:Nat} {x:DataW H×List MemPlace} (ht:prog.underlying t=some (.slice e)) (ce:prog.cellsOf e=2)
 (hel:∀(n:Nat) (cs:List Value) (y:DataW H×List MemPlace),DataW.trod enc prog W base (fun _=>true) held n e cs=some y->wI cs) (h:DataW.trod enc prog W base (fun _=>true) held fuel t [.slice a len cap]=some x):
 ∃qs,CM W a len cap qs/\((x.1= .nil/\qs=[])\/∃es rest,x.1= .slice es rest/\len<=es.length):=by
 rcases aeH ht h with ⟨hcs,hx⟩|⟨ad,l,c,m,n,D,Pl,hcs,_,hl,hm,hmm,rfl,hcell⟩
 .simp at hcs
  obtain⟨rfl,rfl,rfl⟩:=hcs;subst hx;exact⟨[],⟨rfl,ah.nil _ _,fun _=>⟨rfl,rfl⟩,fun j p hj=>by simp at hj,aad _⟩,.inl ⟨rfl,rfl⟩⟩
 .simp at hcs
  obtain⟨rfl,rfl,rfl⟩:=hcs;have hmc:m=cap:=by simpa using hmm
  have each:∀i,i<m->∃q:Int×Int,W.cell? (ad.add (i*2))=some (.int .i64 q.1)/\W.cell? (ad.add (i*2+1))=some (.int .i64 q.2)/\fW q:=fun i hi=>by
   obtain⟨cs',h1,h2⟩:=hcell i hi;rw[ce] at h1;obtain⟨_,hlen,hc⟩:=World.cells?_some h1;obtain⟨u,v,rfl,hw⟩:=hel n cs' _ h2;have e0:=hc 0 (by omega);have e1:=hc 1 (by omega);rw[Deep.add_add] at e0 e1;exact⟨(u,v),by simpa using e0,by simpa using e1,hw⟩
  obtain⟨q,hq⟩:=Deep.choose_lt each;refine⟨(List.range len).map q,⟨by simp,fun j p hj=> ?_,fun h=>(by cases h),fun j p hj=> ?_,hl⟩,.inr ⟨_,_,rfl,by simp⟩⟩
  .have hi:j<len:=by
    have:=(aah.1 hj).1;simpa using this
   simp[hi] at hj;subst hj;obtain⟨c0,c1,_⟩:=hq j (by omega);obtain⟨b,o,s⟩:=ad;have hsp:s=none:=by
    obtain⟨c00,_⟩:=hq 0 (by omega);simpa[Addr.add] using aeD c00
   subst hsp;have ea:∀k,((⟨b,o,none⟩:Addr).add k)=⟨b,o+k,none⟩:=fun k=>by
    by_cases h0:k=0<;>simp[Addr.add,h0]
   rw[ea] at c0 c1;exact⟨b,o,rfl,c0,by rw[<-adx] at c1;exact c1⟩
  .have hi:j<len:=by
    have:=(aah.1 hj).1;simpa using this
   simp[hi] at hj;subst hj;exact(hq j (by omega)).2.2
end
end
section
open Go.RowKit
theorem Le (ty:TypeId) (W:World) (b:Nat) (ao:Option Addr) (n ca:Nat) (l:List Int) (hb:W.heap[b]? =some (.cells #[] 3 (0,0))) (hr:xT W ao n ca l) (hn:n<=17592186043904):
 ∃g c w',(Builtin.append_ #[55,55] ty #[.slice (some ⟨b,0,none⟩) 0 0,.slice ao n ca]).run Tryz.prog W= .ok (.slice (some ⟨g,0,none⟩) n c) w'/\(g=b\/W.heap.size<=g)/\(∀B,B<=b->aj w' B (.slice (some ⟨g,0,none⟩) n c) l)/\g<w'.heap.size/\Below W.heap.size W w':=by
 obtain⟨i0,hi,hz0,hz1,hz2⟩:=info_parts Tryz.b7;have hlt:=lt_of_block hb;have oK:∀B,B<=b->W.ownsRow B 3 1 (.slice (some ⟨b,0,none⟩) 0 0) 0 []:=fun B hB=>⟨rfl,.inr ⟨b,0,#[],rfl,hB,hb,aad _,by unfold maxLen;omega,rfl,rfl⟩⟩
 by_cases h0:n=0
 .subst h0
  have hl:l=[]:=abM.1 hr.len;subst hl;refine⟨b,0,W,?_,.inl rfl,fun B hB=>oK B hB,hlt,aae _ _⟩;cases ao with
  |none=>
   obtain⟨_,rfl⟩:=hr.none rfl;exact run_append_owned_none (P:=Tryz.prog) (w:=W) b 55 ty 3 i0 1 Tryz.underlying55 hi _ 0 [] (oK b (aad _))
  |some y=>
   have:=run_append_room_cells (P:=Tryz.prog) W 55 ty 3 i0 Tryz.underlying55 hi b 0 0 0 y 0 ca [] (by simp) (fun j u hj=>by simp at hj) (fun u hu=>by simp at hu) (aad _) (fun j hj=>by simp at hj) (fun j hj=>by simp at hj);rw[this];simp[World.setCells]
 .obtain⟨y,hy⟩:∃y,ao=some y:=by
   cases ao with
   |none=>exact absurd (hr.none rfl).1 h0
   |some y=>exact⟨y,rfl⟩
  subst hy;obtain⟨v',w',hrun,r1,r2⟩:=run_append_arg_grows (P:=Tryz.prog) W 55 ty 3 i0 (.int .i64 0) 1 8 Tryz.underlying55 hi hz0 hz1 hz2 rfl (by decide) ⟨b,0,none⟩ 0 0 [] rfl (fun j u hj=>by simp at hj) y n ca (l.map (Value.int .i64)) (by rw[aaE,hr.len];omega) (fun j u hj=>by
   rw[aaP] at hj;cases BK:l[j]? with
   |none=>rw[BK] at hj;cases hj
   |some z=>
    rw[BK] at hj;obtain rfl:=aaG hj;obtain⟨b',o',e,hc⟩:=hr.ints j z BK;cases e;have ea:((⟨b',o',none⟩:Addr).add j)=⟨b',o'+j,none⟩:=by
     by_cases h0:j=0<;>simp[Addr.add,h0]
    rw[ea];exact hc) (by omega) (by unfold maxLen;omega) (by omega)
  rw[abI,abi] at r1;obtain⟨k,hk⟩:∃k,n=k+1:=⟨n-1,by omega⟩;rw[hk] at r1;obtain⟨g,c,rfl⟩:=rL r1;rw[<-hk] at r1 hrun;have hg:=aap r1 g rfl;refine⟨g,c,w',hrun,.inr hg.1,fun B hB=> ?_,hg.2,⟨r2.os,r2.tape,r2.output,r2.size,fun k hk=>r2.block k hk (by simp)⟩⟩;have:aj w' W.heap.size (.slice (some ⟨g,0,none⟩) n c) l:=by
   unfold aj;rw[hr.len];exact r1
  exact this.lower (by omega)
end
section
open Go.RowKit
theorem J4 {W:World} {y:Addr} {es:List (Int×Int)} (he:ah W (some y) es):∀j u,(gF es)[j]? =some u->W.cell? (y.add j)=some u:=by
 intro j u hj;have hjl:=(aah.1 hj).1;rw[ni] at hjl;obtain⟨p,hp⟩:∃p,es[j/2]? =some p:=⟨_,aac (by omega)⟩;obtain⟨b,o,e,c0,c1⟩:=he (j/2) p hp;cases e;obtain⟨f0,f1⟩:=nT es (j/2) p hp;have ea:((⟨b,o,none⟩:Addr).add j)=⟨b,o+j,none⟩:=by
  by_cases h0:j=0<;>simp[Addr.add,h0]
 rw[ea];by_cases hm:j%2=0
 .have e:j/2*2=j:=by omega
  rw[e] at f0 c0;rw[f0] at hj;cases hj;exact c0
 .have e:j/2*2+1=j:=by omega
  rw[e] at f1;have e3:o+j/2*2+1=o+j:=by omega
  rw[e3] at c1;rw[f1] at hj;cases hj;exact c1
end
section
open Go.RowKit
theorem Lf (ty:TypeId) (W:World) (b:Nat) (ao:Option Addr) (n ca:Nat) (es:List (Int×Int)) (hb:W.heap[b]? =some (.cells #[] 66 (0,0))) (he:ah W ao es) (hl:es.length=n) (h0:ao=none->ca=0) (hn:n<=8796093022000):
 ∃g c w',(Builtin.append_ #[22,22] ty #[.slice (some ⟨b,0,none⟩) 0 0,.slice ao n ca]).run Tryz.prog W= .ok (.slice (some ⟨g,0,none⟩) n c) w'/\(g=b\/W.heap.size<=g)/\(∀B,B<=b->bD w' B (.slice (some ⟨g,0,none⟩) n c) es)/\g<w'.heap.size/\Below W.heap.size W w':=by
 obtain⟨i0,hi,hz0,hz1,hz2⟩:=info_parts Tryz.xH;have hlt:=lt_of_block hb;have oK:∀B,B<=b->W.ownsRow B 66 2 (.slice (some ⟨b,0,none⟩) 0 0) 0 []:=fun B hB=>⟨rfl,.inr ⟨b,0,#[],rfl,hB,hb,aad _,by unfold maxLen;omega,rfl,rfl⟩⟩
 by_cases hn0:n=0
 .subst hn0
  have hl:es=[]:=abM.1 hl;subst hl;refine⟨b,0,W,?_,.inl rfl,fun B hB=>oK B hB,hlt,aae _ _⟩;cases ao with
  |none=>
   obtain rfl:=h0 rfl;exact run_append_owned_none (P:=Tryz.prog) (w:=W) b 22 ty 66 i0 2 Tryz.underlying22 hi _ 0 [] (oK b (aad _))
  |some y=>
   have:=run_append_room_cells (P:=Tryz.prog) W 22 ty 66 i0 Tryz.underlying22 hi b 0 0 0 y 0 ca [] (by simp) (fun j u hj=>by simp at hj) (fun u hu=>by simp at hu) (aad _) (fun j hj=>by simp at hj) (fun j hj=>by simp at hj);rw[this];simp[World.setCells]
 .obtain⟨y,hy⟩:∃y,ao=some y:=by
   cases ao with
   |none=>
    have hp:es[0]? =some es[0]:=aac (by omega);obtain⟨_,_,e,-⟩:=he 0 _ hp;cases e
   |some y=>exact⟨y,rfl⟩
  subst hy;obtain⟨v',w',hrun,r1,r2⟩:=run_append_arg_grows (P:=Tryz.prog) W 22 ty 66 i0 (.agg #[.int .i64 0,.int .i64 0]) 2 16 Tryz.underlying22 hi hz0 hz1 hz2 rfl (by decide) ⟨b,0,none⟩ 0 0 [] rfl (fun j u hj=>by simp at hj) y n ca (gF es) (by rw[ni,hl]) (J4 he) (by omega) (by unfold maxLen;omega) (by omega);rw[abI,abi] at r1;obtain⟨k,hk⟩:∃k,n=k+1:=⟨n-1,by omega⟩;rw[hk] at r1;obtain⟨g,c,rfl⟩:=rL r1;rw[<-hk] at r1 hrun;have hg:=aap r1 g rfl;refine⟨g,c,w',hrun,.inr hg.1,fun B hB=> ?_,hg.2,⟨r2.os,r2.tape,r2.output,r2.size,fun k hk=>r2.block k hk (by simp)⟩⟩;have:bD w' W.heap.size (.slice (some ⟨g,0,none⟩) n c) es:=by
   unfold bD;rw[hl];exact r1
  exact this.lower (by omega)
end
section
open Go.RowKit
namespace aP
theorem ab9 {P:Program} {ops:Array Oper} {Q:Exit->Act->World->Prop} {a0:Act} {w0:World} (C:(Nat->Bool)->(Nat->Value)->World->Prop) (N:Nat) (hN:a0.tmps.size=N) (hsh:shape ops ops.size (fun _=>[])=true)
 (DT:∀ ρ,C (fun _=>false) ρ w0)
 (hstep:∀i o (L:Nat->Bool) (ρ:Nat->Value) w (ev:Operand->Value),ops[i]? =some o->L i=false->C L ρ w->(∀e∈o.after,Region.binds .any e=true->L e.on=true)->(∀j o',ops[j]? =some o'->L j=true->∀e∈o'.after,Region.binds .any e=true->L e.on=true)->
   (∀j t,j<i->dst ops j=some t->t<N->ev (.tmp t)=ρ j)->(∀t,((List.range i).all fun j=>dst ops j != some t)=true->ev (.tmp t)=a0.eval (.tmp t))->(∀v,ev (.const v)=v)->(∀f,ev (.func f)= .func (.func f) #[] #[])->
   dM P o ev w fun v w'=>C (bS L i) (upd ρ i v) w')
 (hend:∀L ρ w,(∀i,i<ops.size->L i=true)->C L ρ w->Q .normal (canon ops a0 ρ ops.size) w):
 wpAny P .any ops Q ops.size (Array.replicate ops.size false) a0 w0:=by
 have hs:=fun i (hi:i<ops.size)=>aaW.1 hsh i (aaJ.2 hi)
 have hlt:∀{j t},dst ops j=some t->j<ops.size:=fun {j t} h=>by
  rcases abX j ops.size with h1|h1
  .exact h1
  .unfold dst at h;rw[adn h1] at h;cases h
 have hone:∀i j t,i≠j->dst ops j=some t->dst ops i≠some t:=fun i j t hij hj hi=>by
  have h1:=hs j (hlt hj);dsimp only at h1;cases ho:ops[j]? with
  |none=>rw[ho] at h1;cases h1
  |some o=>
   have hd:o.dst=some t:=by unfold dst at hj;rw[ho] at hj;exact hj
   rw[ho] at h1;simp only[aa2] at h1;have h2:=h1.1;rw[hd] at h2;have h3:=aaW.1 h2 i (aaJ.2 (hlt hi));simp only[abR,beq_iff_eq,bne_iff_ne] at h3;rcases h3 with h3|h3
   .exact hij h3
   .exact h3 hi
 have hop:∀i,i<ops.size->∃o,ops[i]? =some o/\o.guard=none/\(∀cs b,o.op≠.select cs b)/\
  (∀t,Operand.tmp t∈o.op.operands->∀j,j<ops.size->dst ops j=some t->j<i/\∃e∈o.after,Region.binds .any e=true/\e.on=j)/\(∀e∈o.after,Region.binds .any e=true->e.on<i):=fun i hi=>by
  have h1:=hs i hi;dsimp only at h1;cases ho:ops[i]? with
  |none=>rw[ho] at h1;cases h1
  |some o=>
   rw[ho] at h1;simp only[aa2,if_pos hi] at h1;obtain⟨_,⟨⟨⟨g1,g2⟩,g4⟩,_⟩,g6⟩:=h1;refine⟨o,rfl,by simpa using g1,(fun cs b hsel=>by rw[hsel] at g2;cases g2),fun t ht j hj hd=> ?_,fun e he hb=> ?_⟩
   .have h2:=aaW.1 g4 (.tmp t) (by simpa using ht)
    dsimp only at h2;have h3:=aaW.1 h2 j (aaJ.2 hj);simp only[abR,bne_iff_ne,aa2,decide_eq_true_eq,ab1,beq_iff_eq] at h3;rcases h3 with h3|⟨h3,e,he,h4⟩
    .exact absurd hd h3
    .exact⟨h3,e,by simpa using he,h4⟩
   .have h2:=acH.1 g6 e he
    rw[hb] at h2;simpa using h2
 have fin:∀(listed:Array Bool),listed.size=ops.size->Region.ready .any ops listed=[]->∀i,i<ops.size->listed.getD i false=true:=by
  intro listed hl hr i
  induction i using Nat.strongRecOn with
  |_ i ih=>
   intro hi;by_cases hb:listed.getD i false=true
   .exact hb
   .exfalso
    have hi':i<listed.size:=by omega
    have h0:listed.getD i true=false:=by
     simp[hi'] at hb ⊢;exact hb
    obtain⟨o,ho,_,_,_,dB⟩:=hop i hi;have hm:i∈Region.ready .any ops listed:=by
     rw[mem_ready];refine⟨h0,o,ho,fun e he hbd=> ?_⟩;have:=dB e he hbd;exact ih e.on this (by omega)
    rw[hr] at hm;cases hm
 have key:∀(fuel:Nat) (listed:Array Bool) (ρ:Nat->Value) (w:World),listed.size=ops.size->listed.toList.count false=fuel->C (fun j=>listed.getD j false) ρ w->(∀j o',ops[j]? =some o'->listed.getD j false=true->∀e∈o'.after,Region.binds .any e=true->listed.getD e.on false=true)->
  wpAny P .any ops Q fuel listed (part ops a0 ρ (fun j=>listed.getD j false) ops.size) w:=by
  intro fuel
  induction fuel with
  |zero=>
   intro listed ρ w hl hc hC hdc;have hall:∀i,i<ops.size->listed.getD i false=true:=fun i hi=>by
    have hm:¬false∈listed.toList:=fun h=>by
     have:=acD.2 h;omega
    have hi':i<listed.size:=by omega
    by_cases gY:listed[i]=true
    .simp[hi',gY]
    .exfalso
     have e:listed[i]=false:=by simpa using gY
     exact hm (by rw[<-e];simp)
   refine⟨?_,by rw[nD hall];exact hend _ _ _ hall hC⟩;refine aei.2 fun i hi=> ?_
   rw[mem_ready] at hi;obtain⟨h0,o,ho,_⟩:=hi;have h1:=hall i (aa3.1 ho).1;have hi':i<listed.size:=by have:=(aa3.1 ho).1;omega
   simp[hi'] at h0 h1;rw[h0] at h1;cases h1
  |succ fuel ih=>
   intro listed ρ w hl hc hC hdc;refine⟨fun hr=>by rw[nD (fin listed hl hr)];exact hend _ _ _ (fin listed hl hr) hC,fun i hi=> ?_⟩;rw[mem_ready] at hi;obtain⟨h0,o,ho,dK⟩:=hi;have hin:=(aa3.1 ho).1;have hi':i<listed.size:=by omega
   obtain⟨o',ho',hgd,hsel,hread,_⟩:=hop i hin;rw[ho] at ho';cases ho';have fj:listed.getD i false=false:=by
    simp[hi'] at h0 ⊢;exact h0
   have hev:execOp (part ops a0 ρ (fun j=>listed.getD j false) ops.size).eval o=execOp (canon ops a0 ρ i).eval o:=by
    refine execOp_congr o hsel fun x hx=> ?_
    cases x with
    |tmp t=>
     refine mC (fun i j hij=>hone i j t hij) (by omega) fun j hj hd=> ?_
     obtain⟨h1,e,he,hbd,rfl⟩:=hread t hx j (by omega) hd;exact⟨h1,dK e he hbd⟩
    |_=>rfl
   have qE:=hstep i o (fun j=>listed.getD j false) ρ w (canon ops a0 ρ i).eval ho fj hC dK hdc (fun j t hj hd ht=>by
    rw[b8,jQ hd (fun i hi=>hone i j t hi hd) rfl i hj,if_pos (by rw[hN];exact ht)]) (fun t ht=>by
    rw[b8,eX i fun j hj _=>by
     have:=aaW.1 ht j (aaJ.2 hj);simpa using this]) (fun v=>rfl) (fun f=>rfl)
   unfold wpOp;rw[ho];dsimp only;have hw:Region.wanted o (yielded ops (part ops a0 ρ (fun j=>listed.getD j false) ops.size).tmps)=true:=by
    unfold Region.wanted;rw[hgd]
   rw[if_pos hw];refine .inl ?_;have ur:dM P o (part ops a0 ρ (fun j=>listed.getD j false) ops.size).eval w fun v w'=>C (bS (fun j=>listed.getD j false) i) (upd ρ i v) w':=by
    unfold dM at qE ⊢;rw[hev];exact qE
   refine ur.wp fun v w' Gx=> ?_
   have BU:o.dst=dst ops i:=by unfold dst;rw[ho];rfl
   have eD:∀j,(listed.setIfInBounds i true).getD j false=if j=i then true else listed.getD j false:=fun j=>by
    by_cases e:j=i
    .subst e
     rw[if_pos rfl];simp[hi']
    .rw[if_neg e]
     exact getD_set_ne false (fun h=>e h.symm)
   rw[BU,rK hone fj hin,mA (L':=fun j=>(listed.setIfInBounds i true).getD j false) (ρ':=upd ρ i v) (fun j=>(eD j).symm) (fun _ _=>rfl)];refine ih (listed.setIfInBounds i true) (upd ρ i v) w' (by simpa using hl) ?_ ?_ ?_
   .rw[ac5]
    have hi2:i<listed.toList.length:=by simpa using hi'
    have e:listed.toList[i]=false:=by
     simp[hi'] at h0;simpa using h0
    have hpos:0<listed.toList.count false:=acD.2 (by rw[<-e];exact acG hi2);rw[aek hi2,e,if_pos (by decide),if_neg (by decide)];omega
   .have e:(fun j=>(listed.setIfInBounds i true).getD j false)=bS (fun j=>listed.getD j false) i:=funext fun j=>by rw[eD];rfl
    rw[e];exact Gx
   .intro j o' hj hjl e he iN
    rw[eD] at hjl ⊢;by_cases e1:e.on=i
    .rw[if_pos e1]
    .rw[if_neg e1]
     by_cases e2:j=i
     .subst e2
      rw[ho] at hj;cases hj;exact dK e he iN
     .rw[if_neg e2] at hjl
      exact hdc j o' hj hjl e he iN
 have hnone:∀j,(Array.replicate ops.size false).getD j false=false:=fun j=>by by_cases hk:j<ops.size<;>simp[hk]
 have h0:part ops a0 (fun _=>undef) (fun j=>(Array.replicate ops.size false).getD j false) ops.size=a0:=by
  have:∀k,part ops a0 (fun _=>undef) (fun j=>(Array.replicate ops.size false).getD j false) k=a0:=by
   intro k
   induction k with
   |zero=>rfl
   |succ k ih=>
    unfold part;rw[ih,hnone k,if_neg (by decide)]
  exact this _
 have hk:=key ops.size (Array.replicate ops.size false) (fun _=>undef) w0 (by simp) (by simp) (by rw[show(fun j=>(Array.replicate ops.size false).getD j false)=fun _=>false from funext hnone];exact DT _) (fun j o' _ h=>by rw[hnone j] at h;cases h);rw[h0] at hk;exact hk
end aP
end
end Go.Proofs.YtdbjpbjocmcpkaaGreatDoor
