import Derived.Test.YtdbjpbjocmcpkaaGreatDoorMj20
set_option maxHeartbeats 4000000
set_option maxRecDepth 100000
namespace Go.Proofs.YtdbjpbjocmcpkaaGreatDoor
section
open Go.Proofs.Tryz
open Go.RowKit
namespace Pa
theorem Jk {s:St} {l:List Nu.Tok} {x:Int×Int} (h:header s l= .error x):20<=x.1/\x.1<=26:=by
 unfold header at h
 split at h
 .cases h;simp
 .split at h
  .cases h;simp
  .split at h
   .cases h;simp
   .cases h
theorem Pg {s:St} {l:List Nu.Tok} {x:Int×Int} (h:yw s l= .error x):20<=x.1/\x.1<=26:=by
 unfold yw at h
 split at h
 .cases h;simp
 .split at h
  .cases h;simp
  .split at h
   .cases h;simp
   .split at h
    .cases h;simp
    .cases h
theorem Dl {s:St} {l:List Nu.Tok} {x:Int×Int} (h:line s l= .error x):20<=x.1/\x.1<=26:=by
 unfold line at h
 split at h
 .exact Pg h
 .exact Jk h
theorem Hh {s:St} {a:Int} {x:Int×Int} (h:fin s a= .error x):20<=x.1/\x.1<=26:=by
 unfold fin at h
 split at h
 .cases h;simp
 .split at h
  .cases h;simp
  .cases h
theorem QH {s s':St} {a:Int} (h:fin s a= .ok s'):s'=s:=by
 unfold fin at h
 split at h
 .cases h
 .split at h
  .cases h
  .cases h;rfl
theorem AX {s s':St} {l:List Nu.Tok} (h:line s l= .ok s'):s'.pairs.length<=s.pairs.length+1:=by
 unfold line at h
 split at h
 .unfold yw at h
  split at h
  .cases h
  .split at h
   .cases h
   .split at h
    .cases h
    .split at h
     .cases h
     .cases h;simp
 .unfold header at h
  split at h
  .cases h
  .split at h
   .cases h
   .split at h
    .cases h
    .cases h;simp
end Pa
theorem OU (B b:Nat) (s:Pa.St) (v:Value) (T o cap:Nat) (l:List Nu.Tok) (w:World) (hr:dm w b s v) (hp:aM w B v s.pairs) (hl:dG w T o l) (hne:l≠[]) (hlen:l.length<=33554433) (Jn:T≠b) (hb:b<B):
 Calls prog 154 #[.pointer (some ⟨b,0,none⟩),.slice (some ⟨T,o,none⟩) l.length cap] w (uC B b v (Pa.header s l) w):=by
 refine(LS b s v T o cap l w hr hl hne hlen Jn).mono ?_;rintro e w1 ⟨he,hg,hx⟩;refine⟨he,Kept.RQ hg,?_⟩;unfold tB;cases hh:Pa.header s l with
 |error x=>trivial
 |ok s'=>
  rw[hh] at hx;refine⟨v,hx,?_,fun g h=> .inl h⟩;have e:s'.pairs=s.pairs:=by
   unfold Pa.header at hh
   split at hh
   .cases hh
   .split at hh
    .cases hh
    .split at hh
     .cases hh
     .cases hh;rfl
  rw[e];exact hp.grown hg hb
theorem GS {b:Nat} {v:Value} {w w1:World} (hlt:b<w.heap.size) (hf:∀g,v.ownBlock=some g->g<w.heap.size) (hk:Kept b v (w.alloc (.cells #[.int .i64 0,.int .i64 0] 39)) w1):
 w1.heap[w.heap.size]? =some (.cells #[.int .i64 0,.int .i64 0] 39 (0,0)):=by
 rw[hk.block w.heap.size (by simp) (by omega) (fun h=>by have:=hf _ h.symm;omega)];exact heap_alloc_new w _
theorem GV {B b:Nat} {v:Value} {r:Except (Int×Int) Pa.St} {w w1:World} {x:Obj} (hlt:b<w.heap.size) (hf:∀g,v.ownBlock=some g->g<w.heap.size) (hk:Kept b v (w.alloc x) w1) (ho:tB B b v r (w.alloc x) w1) (a0 a1:Value):
 Kept b v w ((w1.setCell ⟨w.heap.size,0,none⟩ a0).setCell ⟨w.heap.size,1,none⟩ a1)/\tB B b v r w ((w1.setCell ⟨w.heap.size,0,none⟩ a0).setCell ⟨w.heap.size,1,none⟩ a1):=by
 have uh:∀k,k≠w.heap.size->((w1.setCell ⟨w.heap.size,0,none⟩ a0).setCell ⟨w.heap.size,1,none⟩ a1).heap[k]? =w1.heap[k]? :=fun k h=>by
  rw[heap_setCell_other _ ⟨w.heap.size,1,none⟩ k a1 h,heap_setCell_other _ ⟨w.heap.size,0,none⟩ k a0 h]
 have hsz:w.heap.size+1<=w1.heap.size:=by simpa using hk.size
 refine⟨⟨hk.os,hk.tape,hk.output,by simp;omega,fun k hk1 h1 h2=> ?_⟩,?_⟩
 .rw[uh k (by omega),hk.block k (by simp;omega) h1 h2]
  exact aa0 w x k hk1
 .cases r with
  |error y=>trivial
  |ok s'=>
   obtain⟨v',hr,hp,hg⟩:=ho;refine⟨v',(uh b (by omega)).trans hr,⟨hp.1,?_⟩,fun g h=> ?_⟩
   .rcases hp.2 with h|⟨g,cap,cur,rfl,hgB,hh,OG⟩
    .exact .inl h
    .refine .inr ⟨g,cap,cur,rfl,hgB,(uh g ?_).trans hh,OG⟩
     rcases hg g rfl with h|h
     .have:=hf g h;omega
     .simp at h;omega
   .rcases hg g h with h|h
    .exact .inl h
    .exact .inr (by simp at h;omega)
theorem GW (B b:Nat) (s:Pa.St) (v:Value) (T o cap:Nat) (l:List Nu.Tok) (w:World) (hr:dm w b s v) (hp:aM w B v s.pairs) (hl:dG w T o l) (hne:l≠[]) (hlen:l.length<=33554433) (Jn:T≠b) (hT:T<B) (hb:b<B) (hB:B<=w.heap.size) (hps:s.pairs.length<=33554432):
 Calls prog 108 #[.pointer (some ⟨b,0,none⟩),.slice (some ⟨T,o,none⟩) l.length cap] w (uC B b v (Pa.line s l) w):=by
 have hlt:=hr.lt;have c0:=hr.c0;have ot:∀g,v.ownBlock=some g->g<w.heap.size:=fun g h=>by
  obtain⟨ao,cap,rfl,_,hx⟩:=hp.form;cases ao with
  |none=>simp[Value.ownBlock] at h
  |some x=>have:=hx x rfl;simp[Value.ownBlock] at h;omega
 have eA:Below w.heap.size w (w.alloc (.cells #[.int .i64 0,.int .i64 0] 39)):=(aaG _ _).alloc (aaF _) _;have OI:=hr.below eA hlt;have Su:=hp.below eA (aaF _);have hl0:=hl.below eA (by omega);have HR:=ζ OI;have HP:=ζ Su;have HL:=ζ hl0;have aI:=ζ eA;have HF:=ζ ot;clear hr hp hl OI Su hl0 eA ot;unfold Pa.line;cases hbg:s.begun
 .rw[if_neg (by simp)]
  rw[hbg] at c0;have PV:=ζ hbg;clear hbg;go_enter func108,ntmps108;go_wp2_with (go_at_call 154;refine(OU B b s v T o cap l _ HR.out HP.out HL.out hne hlen Jn hb).mono ?_;rintro e w1 ⟨rfl,hk,ho⟩;obtain⟨z0,z1,z2⟩:=gL (GS hlt HF.out hk);unfold kR aO;have HK:=ζ hk;have HO:=ζ ho;clear hk ho);refine bodyPost_ret (v:=kR (Pa.header s l)) (by simp[results,results108,go_sem, *];rfl) rfl ⟨rfl,GV hlt HF.out HK.out HO.out _ _⟩
 .rw[if_pos rfl]
  rw[hbg] at c0;have PV:=ζ hbg;clear hbg;go_enter func108,ntmps108;go_wp2_with (go_at_call 155;refine(S4 B b s v T o cap l _ HR.out HP.out HL.out hne hlen hT hb (by simp;omega) hps).mono ?_;rintro e w1 ⟨rfl,hk,ho⟩;obtain⟨z0,z1,z2⟩:=gL (GS hlt HF.out hk);unfold kR aO;have HK:=ζ hk;have HO:=ζ ho;clear hk ho);refine bodyPost_ret (v:=kR (Pa.yw s l)) (by simp[results,results108,go_sem, *];rfl) rfl ⟨rfl,GV hlt HF.out HK.out HO.out _ _⟩
theorem GU (B b:Nat) (s:Pa.St) (v:Value) (T o cap ln:Nat) (l:List Nu.Tok) (w:World) (x:Int×Int) (hx:Pa.line s l= .error x) (hr:dm w b s v) (hp:aM w B v s.pairs) (hl:dG w T o l) (ny:ln=l.length) (hne:l≠[]) (hlen:l.length<=33554433) (Jn:T≠b) (hT:T<B) (hb:b<B) (hB:B<=w.heap.size) (hps:s.pairs.length<=33554432):
 Calls prog 108 #[.pointer (some ⟨b,0,none⟩),.slice (some ⟨T,o,none⟩) ln cap] w fun e w'=>e= .returned (aO x)/\Kept b v w w':=by
 subst ny;refine(GW B b s v T o cap l w hr hp hl hne hlen Jn hT hb hB hps).mono ?_;rw[hx];exact fun e w' h=>⟨h.1,h.2.1⟩
theorem Dk (B b:Nat) (s:Pa.St) (v:Value) (T o cap ln:Nat) (l:List Nu.Tok) (w:World) (s':Pa.St) (hx:Pa.line s l= .ok s') (hr:dm w b s v) (hp:aM w B v s.pairs) (hl:dG w T o l) (ny:ln=l.length) (hne:l≠[]) (hlen:l.length<=33554433) (Jn:T≠b) (hT:T<B) (hb:b<B) (hB:B<=w.heap.size) (hps:s.pairs.length<=33554432):
 Calls prog 108 #[.pointer (some ⟨b,0,none⟩),.slice (some ⟨T,o,none⟩) ln cap] w fun e w'=>e= .returned (aO (0,0))/\Kept b v w w'/\∃v',dm w' b s' v'/\aM w' B v' s'.pairs:=by
 subst ny;refine(GW B b s v T o cap l w hr hp hl hne hlen Jn hT hb hB hps).mono ?_;rw[hx];exact fun e w' ⟨h1,h2,v',h3,h4,_⟩=>⟨h1,h2,v',h3,h4⟩
theorem My (B b:Nat) (s:Pa.St) (v:Value) (t:Nu.Tok) (w:World) (x:Int×Int) (hx:Pa.fin s t.at'= .error x) (hr:dm w b s v) (hp:aM w B v s.pairs):
 Calls prog 109 #[.pointer (some ⟨b,0,none⟩),nX t] w fun e w'=>e= .returned (aO x)/\Below w.heap.size w w':=by
 obtain⟨ao,cap,rfl,_⟩:=hp.form;refine(Mz b s ao cap t w hr).mono ?_;rw[hx];exact fun e w' h=>h
theorem QJ (B b:Nat) (s s':Pa.St) (v:Value) (t:Nu.Tok) (w:World) (hx:Pa.fin s t.at'= .ok s') (hr:dm w b s v) (hp:aM w B v s.pairs):
 Calls prog 109 #[.pointer (some ⟨b,0,none⟩),nX t] w fun e w'=>e= .returned (aO (0,0))/\Below w.heap.size w w':=by
 obtain⟨ao,cap,rfl,_⟩:=hp.form;refine(Mz b s ao cap t w hr).mono ?_;rw[hx];exact fun e w' h=>h
theorem dG.drop {w:World} {T:Nat} {us vs:List Nu.Tok} (h:dG w T 0 (us++vs)) (k:Nat):dG w T (k*4) (us.drop k):=fun j t hj=>by
 rw[List.getElem?_drop] at hj;have hlt:=(aaH.1 hj).1;have:=h (k+j) t (by rw[aa5 hlt];exact hj);rwa[show 0+(k+j)*4=k*4+j*4 by omega] at this
theorem aM.low {w:World} {B k:Nat} {v:Value} {ps:List (Int×Int)} (h:aM w B v ps) (hk:k<B) (i:Nat) (a:Value):aM (w.setCell ⟨k,i,none⟩ a) B v ps:=by
 refine⟨h.1,?_⟩;rcases h.2 with h|⟨g,cap,cur,e,hgB,hh,hr⟩
 .exact .inl h
 .exact .inr ⟨g,cap,cur,e,hgB,(heap_setCell_other w ⟨k,i,none⟩ g a (by simp;omega)).trans hh,hr⟩
theorem aM.base {w:World} {B A:Nat} {v:Value} {ps:List (Int×Int)} (h:aM w B v ps) (hA:A<=B):aM w A v ps:=by
 refine⟨h.1,?_⟩;rcases h.2 with h|⟨g,cap,cur,e,hgB,hr⟩
 .exact .inl h
 .exact .inr ⟨g,cap,cur,e,by omega,hr⟩
theorem aM.drew {w:World} {B:Nat} {v:Value} {ps:List (Int×Int)} (h:aM w B v ps):aM w.drew B v ps:=h
end
section
open Go.Proofs.Tryz
open Go.RowKit
structure Beside (w wr:World):Prop where
 jU:Below w.heap.size w wr
 res:wr.heap[w.heap.size]? =some (.cells #[.int .i64 0,.slice none 0 0] 86 (0,0))
 BJ:wr.heap[w.heap.size+1]? =some (.cells #[.int .i64 0,.int .i64 0] 39 (0,0))
 Mo:wr.heap[w.heap.size+3]? =some (.cells #[.int .i64 0,.int .i64 0] 39 (0,0))
theorem Beside.alloc {w wr:World} (h:Beside w wr) (o:Obj):Beside w (wr.alloc o):=
 ⟨h.jU.alloc h.jU.size o,(aa0 wr o _ (lt_of_block h.res)).trans h.res,(aa0 wr o _ (lt_of_block h.BJ)).trans h.BJ,(aa0 wr o _ (lt_of_block h.Mo)).trans h.Mo⟩
theorem Beside.size {w wr:World} (h:Beside w wr):w.heap.size+4<=wr.heap.size:=lt_of_block h.Mo
theorem Beside.kept {w wr w':World} {v:Value} {ps:List (Int×Int)} (h:Beside w wr) (hk:Kept (w.heap.size+2) v wr w') (hp:aM wr (w.heap.size+4) v ps):Beside w w':=by
 have hs:=h.size;have hne:∀k,k<w.heap.size+4->some k≠v.ownBlock:=fun k hk=>(hp.far hk).symm
 exact⟨⟨hk.os.trans h.jU.os,hk.tape.trans h.jU.tape,hk.output.trans h.jU.output,by have:=hk.size;omega,fun k hk1=>(hk.block k (by omega) (by omega) (hne k (by omega))).trans (h.jU.block k hk1)⟩,
  (hk.block _ (by omega) (by omega) (hne _ (by omega))).trans h.res,(hk.block _ (by omega) (by omega) (hne _ (by omega))).trans h.BJ,(hk.block _ (by omega) (by omega) (hne _ (by omega))).trans h.Mo⟩
theorem Beside.below {w wr w':World} (h:Beside w wr) (hb:Below wr.heap.size wr w'):Beside w w':=
 ⟨h.jU.trans (hb.mono (by have:=h.size;omega)),(hb.block _ (lt_of_block h.res)).trans h.res,(hb.block _ (lt_of_block h.BJ)).trans h.BJ,(hb.block _ (lt_of_block h.Mo)).trans h.Mo⟩
theorem Beside.zero {w wr:World} (h:Beside w wr):Beside w ((wr.setCell ⟨w.heap.size+3,0,none⟩ (.int .i64 0)).setCell ⟨w.heap.size+3,1,none⟩ (.int .i64 0)):=by
 have ho:∀k,k≠w.heap.size+3->((wr.setCell ⟨w.heap.size+3,0,none⟩ (.int .i64 0)).setCell ⟨w.heap.size+3,1,none⟩ (.int .i64 0)).heap[k]? =wr.heap[k]? :=fun k hk=>by
  rw[heap_setCell_other _ ⟨w.heap.size+3,1,none⟩ k _ hk,heap_setCell_other _ ⟨w.heap.size+3,0,none⟩ k _ hk]
 refine⟨⟨h.jU.os,h.jU.tape,h.jU.output,by simpa using h.jU.size,fun k hk=>(ho k (by omega)).trans (h.jU.block k hk)⟩,(ho _ (by omega)).trans h.res,(ho _ (by omega)).trans h.BJ,?_⟩;have h1:=heap_setCell_same wr (w.heap.size+3) 0 _ _ (.int .i64 0) h.Mo;have h2:=heap_setCell_same _ (w.heap.size+3) 1 _ _ (.int .i64 0) h1;simpa using h2
theorem Beside.cells {w wr:World} (h:Beside w wr):(wr.cell? ⟨w.heap.size,0,none⟩=some (.int .i64 0)/\wr.cell? ⟨w.heap.size,1,none⟩=some (.slice none 0 0)/\∀i,wr.frozen? ⟨w.heap.size,i,none⟩=false)/\
 (wr.cell? ⟨w.heap.size+1,0,none⟩=some (.int .i64 0)/\wr.cell? ⟨w.heap.size+1,1,none⟩=some (.int .i64 0)/\∀i,wr.frozen? ⟨w.heap.size+1,i,none⟩=false)/\
 (wr.cell? ⟨w.heap.size+1+1+1,0,none⟩=some (.int .i64 0)/\wr.cell? ⟨w.heap.size+1+1+1,1,none⟩=some (.int .i64 0)/\∀i,wr.frozen? ⟨w.heap.size+1+1+1,i,none⟩=false):=⟨gL h.res,gL h.BJ,gL h.Mo⟩
def rawVal (n:Int) (v:Value):Value:= .agg #[.int .i64 n,v]
def M5 (r:Except (Int×Int) Pa.St) (w:World) (e:Ending) (w':World):Prop:=
 Below w.heap.size w w'/\
 ((∃x,r= .error x/\e= .returned (.tuple #[rawVal 0 (.slice none 0 0),aO x]))\/
  (∃s v,r= .ok s/\e= .returned (.tuple #[rawVal s.n v,aO (0,0)])/\aM w' w.heap.size v s.pairs))
theorem zk {w wr w':World} {v:Value} {ps:List (Int×Int)} {t:Nu.Tok} (hs:w.heap.size+4<=wr.heap.size) (hk:Kept (w.heap.size+2) v (wr.alloc (.cells #[.int .i64 t.kind,.int .i64 t.at',.int .i64 t.fin,.int .i64 t.num] 186)) w') (hp:aM wr (w.heap.size+4) v ps):
 w'.cell? ⟨wr.heap.size,0,none⟩=some (.int .i64 t.kind)/\w'.cell? ⟨wr.heap.size,1,none⟩=some (.int .i64 t.at')/\w'.cell? ⟨wr.heap.size,2,none⟩=some (.int .i64 t.fin)/\w'.cell? ⟨wr.heap.size,3,none⟩=some (.int .i64 t.num)/\wr.heap.size<w'.heap.size:=by
 have hne:some wr.heap.size≠v.ownBlock:=fun h=>by
  obtain⟨ao,cap,rfl,_,hx⟩:=hp.form;cases ao with
  |none=>simp[Value.ownBlock] at h
  |some x=>have:=hx x rfl;simp[Value.ownBlock] at h;omega
 have hb:w'.heap[wr.heap.size]? =some (.cells #[.int .i64 t.kind,.int .i64 t.at',.int .i64 t.fin,.int .i64 t.num] 186 (0,0)):=(hk.block wr.heap.size (by simp) (by omega) hne).trans (heap_alloc_new wr _);refine⟨?_,?_,?_,?_,lt_of_block hb⟩<;>simp[World.cell?,hb]
theorem aM.alloc {w:World} {B:Nat} {v:Value} {ps:List (Int×Int)} (h:aM w B v ps) (o:Obj):aM (w.alloc o) B v ps:=abv h o
theorem dm.two {w wr:World} {s:Pa.St} {v:Value} (h:dm wr (w.heap.size+2) s v):wr.cell? ⟨w.heap.size+1+1,1,none⟩=some (.int .i64 s.n)/\wr.cell? ⟨w.heap.size+1+1,3,none⟩=some v:=⟨h.c1,h.c3⟩
theorem dm.far {w:World} {b k:Nat} {s:Pa.St} {v:Value} (h:dm w b s v) (hk:b≠k) (i:Nat) (a:Value):dm (w.setCell ⟨k,i,none⟩ a) b s v:=(heap_setCell_other w ⟨k,i,none⟩ b a hk).trans h
theorem Az (w:World):Beside w ((((w.alloc (.cells #[.int .i64 0,.slice none 0 0] 86)).alloc (.cells #[.int .i64 0,.int .i64 0] 39)).alloc (.cells #[.bool false,.int .i64 0,.int .i64 0,.slice none 0 0] 183)).alloc (.cells #[.int .i64 0,.int .i64 0] 39))/\
 dm ((((w.alloc (.cells #[.int .i64 0,.slice none 0 0] 86)).alloc (.cells #[.int .i64 0,.int .i64 0] 39)).alloc (.cells #[.bool false,.int .i64 0,.int .i64 0,.slice none 0 0] 183)).alloc (.cells #[.int .i64 0,.int .i64 0] 39)) (w.heap.size+2) Pa.s0 (.slice none 0 0):=by
 generalize hw1:w.alloc (.cells #[.int .i64 0,.slice none 0 0] 86)=w1;generalize hw2:w1.alloc (.cells #[.int .i64 0,.int .i64 0] 39)=w2;generalize hw3:w2.alloc (.cells #[.bool false,.int .i64 0,.int .i64 0,.slice none 0 0] 183)=w3;have s1:w1.heap.size=w.heap.size+1:=by rw[<-hw1];simp
 have s2:w2.heap.size=w.heap.size+2:=by rw[<-hw2];simp[s1]
 have s3:w3.heap.size=w.heap.size+3:=by rw[<-hw3];simp[s2]
 have e1:w1.heap[w.heap.size]? =some (.cells #[.int .i64 0,.slice none 0 0] 86 (0,0)):=by rw[<-hw1];exact heap_alloc_new w _
 have e2:w2.heap[w.heap.size+1]? =some (.cells #[.int .i64 0,.int .i64 0] 39 (0,0)):=by rw[<-hw2,<-s1];exact heap_alloc_new w1 _
 have e3:w3.heap[w.heap.size+2]? =some (.cells #[.bool false,.int .i64 0,.int .i64 0,.slice none 0 0] 183 (0,0)):=by rw[<-hw3,<-s2];exact heap_alloc_new w2 _
 have e4:(w3.alloc (.cells #[.int .i64 0,.int .i64 0] 39)).heap[w.heap.size+3]? =some (.cells #[.int .i64 0,.int .i64 0] 39 (0,0)):=by rw[<-s3];exact heap_alloc_new w3 _
 have m2:∀k,k<w.heap.size+1->w2.heap[k]? =w1.heap[k]? :=fun k hk=>by rw[<-hw2];exact aa0 _ _ _ (by omega)
 have m3:∀k,k<w.heap.size+2->w3.heap[k]? =w2.heap[k]? :=fun k hk=>by rw[<-hw3];exact aa0 _ _ _ (by omega)
 have m4:∀k,k<w.heap.size+3->(w3.alloc (.cells #[.int .i64 0,.int .i64 0] 39)).heap[k]? =w3.heap[k]? :=fun k hk=>aa0 _ _ _ (by omega)
 have hb:Below w.heap.size w (w3.alloc (.cells #[.int .i64 0,.int .i64 0] 39)):=by
  rw[<-hw3,<-hw2,<-hw1];exact((((aaG _ _).alloc (aaF _) _).alloc (by simp) _).alloc (by simp;omega) _).alloc (by simp;omega) _
 exact⟨⟨hb,by rw[m4 _ (by omega),m3 _ (by omega),m2 _ (by omega)];exact e1,by rw[m4 _ (by omega),m3 _ (by omega)];exact e2,e4⟩,(m4 _ (by omega)).trans e3⟩
theorem RD (T cap n:Nat) (ts Rg:List Nu.Tok) (w:World) (ht:dG w T 0 ts) (hT:T<w.heap.size) (hlen:ts.length<=16777217) (hcap:ts.length<=cap) (hts:ts=Rg++[⟨3,n,n,0⟩]) (hk:∀t∈Rg,t.kind=1\/t.kind=2):
 Calls prog 68 #[.slice (some ⟨T,0,none⟩) ts.length cap] w (M5 (Pa.go Pa.s0 (Pa.nP [] ts) n) w):=by
 have HT:=ζ ht;have wM:=ζ hts;have HK:=ζ hk;clear ht hts hk;have B0:=ζ (Az w).1;have R0:=ζ (Az w).2;go_enter func68,ntmps68;go_wp2;go_step3;go_wp2;go_step3;go_wp2
 go_loopw [12,6] (fun c bg wr=>∃(us vs:List Nu.Tok) (k:Nat) (s:Pa.St) (v:Value),Rg=us++vs/\k<=us.length/\c= .int .i64 us.length/\bg= .int .i64 k/\
  Pa.go Pa.s0 (Pa.nP [] ts) n=Pa.go s (Pa.nP (us.drop k) (vs++[⟨3,n,n,0⟩])) n/\s.pairs.length<=us.length/\Beside w wr/\dm wr (w.heap.size+2) s v/\aM wr (w.heap.size+4) v s.pairs) (fun c _ _=>ts.length-(intOf c).toNat)
 case atStart=>exact⟨[],Rg,0,Pa.s0,.slice none 0 0,rfl,aaF _,rfl,rfl,by rw[wM.out];rfl,aaF _,B0.out,R0.out,acG _ _ _ _⟩
 case round=>
  obtain⟨us,vs,k,s,v,Fz,hku,rfl,rfl,hgo,hps,kK,hrd,hop⟩:=hrel;have hl:ts.length=us.length+vs.length+1:=by rw[wM.out,Fz];simp;omega
  have hlt:(us.length:Int)<(ts.length:Int):=by omega
  have ip:(0:Int)<=(us.length:Int):=by omega
  have kp:(0:Int)<=(k:Int):=by omega
  have ku:(k:Int)<=(us.length:Int):=by omega
  have uc:(us.length:Int)<=(cap:Int):=by omega
  have kc:¬(cap=k):=by omega
  have hlm:us.length<=16777216:=by omega
  have tJ:=ζ hl;clear hl;have qI:us.length-k=(us.drop k).length:=by simp
  have B3:=ζ qI;clear qI;have BU:=ζ Fz;have rq:=ζ hgo;clear Fz hgo;have U9:T≠w.heap.size+2:=by omega
  have ZK:dG (wr) T (k*4) (us.drop k):=dG.drop (vs:=vs++[⟨3,n,n,0⟩]) (by have:=HT.out.below kK.jU hT;rw[wM.out,BU.out,abb] at this;exact this) k;have Nt:=ζ ZK;clear ZK;cases vs with
  |nil=>
   have zQ:oV wr T (us.length*4) ⟨3,n,n,0⟩:=by
    have:=(HT.out.below kK.jU hT) us.length ⟨3,n,n,0⟩ (by rw[wM.out,BU.out];simp);rwa[abK] at this
   obtain⟨a0,a1,a2,a3⟩:=zQ;dsimp only at a0 a1 a2 a3;have oP:T<wr.heap.size:=block_lt_of_cell a0;have hsz:=kK.size;have q0:w.heap.size<wr.heap.size:=by omega
   have q1:w.heap.size+1<wr.heap.size:=by omega
   have q2:w.heap.size+1+1<wr.heap.size:=by omega
   have q3:w.heap.size+1+1+1<wr.heap.size:=by omega
   have b9:=ζ kK;have qh:=ζ hrd;have mC:=ζ hop;clear kK hrd hop;obtain⟨⟨r0,r1,r2⟩,⟨s0,s1,s2⟩,⟨f0,f1,f2⟩⟩:=b9.out.cells;by_cases hke:k=us.length
   .subst hke
    have e0:us.drop us.length=[]:=by simp
    have E0:=ζ e0;clear e0;cases hf:Pa.fin s n with
    |error x=>
     have HF:=ζ hf;clear hf;have jx:(x.1 != 0)=true:=by have:=Pa.Hh HF.out;simp;omega
     go_wp2_with ((go_at_call 109;refine(My (w.heap.size+4) (w.heap.size+2) s v ⟨3,n,n,0⟩ _ x HF.out (qh.out.alloc _) (mC.out.alloc _)).mono ?_;rintro e w3 ⟨rfl,hb3⟩;have nA:=(b9.out.alloc _).below hb3;obtain⟨⟨r0,r1,r2⟩,⟨s0,s1,s2⟩,⟨f0,f1,f2⟩⟩:=nA.cells;have E5:=ζ nA;unfold aO;clear hb3 nA))
     go_region
     go_wp2;rw[acX];refine bodyPost_ret (v:= .tuple #[rawVal 0 (.slice none 0 0),aO x]) (by simp[results,results68,go_sem,rawVal,aO, *]) rfl ⟨?_,.inl ⟨x,?_,rfl⟩⟩
     .exact((((((E5.out.jU.setCell (by simp;omega) _).setCell (by simp;omega) _).setCell (by simp) _).setCell (by simp) _).setCell (by simp) _).setCell (by simp) _).drew
     .rw[rq.out,E0.out,abl,Pa.vW (by simp)]
      exact HF.out
    |ok s'=>
     have HF:=ζ hf;clear hf;have hs3:=Pa.QH HF.out;subst hs3;obtain⟨ao,vc,rfl,_⟩:=mC.out.form;go_wp2_with ((go_at_call 109;refine(QJ (w.heap.size+4) (w.heap.size+2) s' s' _ ⟨3,n,n,0⟩ _ HF.out (qh.out.alloc _) (mC.out.alloc _)).mono ?_;rintro e w3 ⟨rfl,hb3⟩;have nA:=(b9.out.alloc _).below hb3;have LD:=(qh.out.alloc _).below hb3 (by simp;omega);have LI:=(mC.out.alloc _).below hb3 (aaF _);obtain⟨⟨r0,r1,r2⟩,⟨s0,s1,s2⟩,⟨f0,f1,f2⟩⟩:=nA.cells;obtain⟨d1,d3⟩:=LD.two;have E5:=ζ nA;have WI:=ζ LI;unfold aO;clear hb3 nA LD LI))
     go_region
     go_wp2;rw[acX];refine bodyPost_ret (v:= .tuple #[rawVal s'.n (.slice ao s'.pairs.length vc),aO (0,0)]) (by simp[results,results68,go_sem,rawVal,aO, *]) rfl ⟨?_,.inr ⟨s',_,?_,rfl,?_⟩⟩
     .exact((((((E5.out.jU.setCell (by simp;omega) _).setCell (by simp;omega) _).setCell (by simp) _).setCell (by simp) _).setCell (by simp) _).setCell (by simp) _).drew
     .rw[rq.out,E0.out,abl,Pa.vW (by simp)]
      exact HF.out
     .exact((((((((WI.out.low (by omega) 0 _).low (by omega) 1 _).low (by omega) 0 _).low (by omega) 1 _).low (by omega) 0 _).low (by omega) 1 _).drew).base (by omega))
   .have hkl:k<us.length:=by omega
    have aeW:(k:Int)<(us.length:Int):=by omega
    have hne:us.drop k≠[]:=fun h=>by have:=congrArg List.length h;simp at this;omega
    have BP:(us.drop k).length<=33554433:=by rw[acQ];omega
    have kd:0<us.length-k:=by omega
    have hpos:(0:Int)<((us.length-k:Nat):Int):=by omega
    cases ny:Pa.line s (us.drop k) with
    |error x=>
     have nO:=ζ ny;clear ny;have jx:(x.1 != 0)=true:=by have:=Pa.Dl nO.out;simp;omega
     go_wp2_with (go_at_call 108;refine(GU (w.heap.size+4) (w.heap.size+2) s v T (k*4) _ _ (us.drop k) _ x nO.out (qh.out.alloc _) (mC.out.alloc _) (Nt.out.below ((aaG _ _).alloc (aaF _) _) oP) B3.out hne BP U9 (by omega) (by omega) (by simp;omega) (by omega)).mono ?_;rintro e w2 ⟨rfl,hk2⟩;have iV:=(b9.out.alloc _).kept hk2 (mC.out.alloc _);obtain⟨⟨r0,r1,r2⟩,⟨s0,s1,s2⟩,⟨f0,f1,f2⟩⟩:=iV.cells;have yY:=ζ iV;unfold aO;clear hk2 iV)
     go_region
     go_wp2;rw[acX];refine bodyPost_ret (v:= .tuple #[rawVal 0 (.slice none 0 0),aO x]) (by simp[results,results68,go_sem,rawVal,aO, *]) rfl ⟨?_,.inl ⟨x,?_,rfl⟩⟩
     .exact((((((yY.out.jU.setCell (by simp;omega) _).setCell (by simp;omega) _).setCell (by simp) _).setCell (by simp) _).setCell (by simp) _).setCell (by simp) _).drew
     .rw[rq.out,abl,Pa.pM (by simp) hne]
      exact Pa.G8 nO.out
    |ok s'=>
     have nO:=ζ ny;clear ny;have hgrow:=Pa.AX nO.out;cases hf:Pa.fin s' n with
     |error x=>
      have HF:=ζ hf;clear hf;have jx:(x.1 != 0)=true:=by have:=Pa.Hh HF.out;simp;omega
      go_wp2_with (first|(go_at_call 108;refine(Dk (w.heap.size+4) (w.heap.size+2) s v T (k*4) _ _ (us.drop k) _ s' nO.out (qh.out.alloc _) (mC.out.alloc _) (Nt.out.below ((aaG _ _).alloc (aaF _) _) oP) B3.out hne BP U9 (by omega) (by omega) (by simp;omega) (by omega)).mono ?_;rintro e w2 ⟨rfl,hk2,v',A7,x9⟩;have iV:=(b9.out.alloc _).kept hk2 (mC.out.alloc _);obtain⟨⟨r0,r1,r2⟩,⟨s0,s1,s2⟩,⟨f0,f1,f2⟩⟩:=iV.cells;obtain⟨y0,y1,y2,y3,y4⟩:=zk (t:=⟨3,n,n,0⟩) hsz hk2 mC.out;have hsz2:=iV.size;have yY:=ζ iV;have yQ:=ζ A7;have Hw:=ζ x9;unfold aO;clear hk2 iV A7 x9)|(go_at_call 109;refine(My (w.heap.size+4) (w.heap.size+2) s' v' ⟨3,n,n,0⟩ _ x HF.out ((yQ.out.far (by simp) 0 _).far (by simp) 1 _) ((Hw.out.low (by omega) 0 _).low (by omega) 1 _)).mono ?_;rintro e w3 ⟨rfl,hb3⟩;have nA:=yY.out.zero.below hb3;obtain⟨⟨r0,r1,r2⟩,⟨s0,s1,s2⟩,⟨f0,f1,f2⟩⟩:=nA.cells;have E5:=ζ nA;unfold aO;clear hb3 nA))
      go_region
      go_wp2;rw[acX];refine bodyPost_ret (v:= .tuple #[rawVal 0 (.slice none 0 0),aO x]) (by simp[results,results68,go_sem,rawVal,aO, *]) rfl ⟨?_,.inl ⟨x,?_,rfl⟩⟩
      .exact((((((E5.out.jU.setCell (by simp;omega) _).setCell (by simp;omega) _).setCell (by simp) _).setCell (by simp) _).setCell (by simp) _).setCell (by simp) _).drew
      .rw[rq.out,abl,Pa.pM (by simp) hne,Pa.go_ok nO.out]
       exact HF.out
     |ok s3=>
      have HF:=ζ hf;clear hf;have hs3:=Pa.QH HF.out;subst hs3;go_wp2_with (first|(go_at_call 108;refine(Dk (w.heap.size+4) (w.heap.size+2) s v T (k*4) _ _ (us.drop k) _ s3 nO.out (qh.out.alloc _) (mC.out.alloc _) (Nt.out.below ((aaG _ _).alloc (aaF _) _) oP) B3.out hne BP U9 (by omega) (by omega) (by simp;omega) (by omega)).mono ?_;rintro e w2 ⟨rfl,hk2,v',A7,x9⟩;have iV:=(b9.out.alloc _).kept hk2 (mC.out.alloc _);obtain⟨⟨r0,r1,r2⟩,⟨s0,s1,s2⟩,⟨f0,f1,f2⟩⟩:=iV.cells;obtain⟨y0,y1,y2,y3,y4⟩:=zk (t:=⟨3,n,n,0⟩) hsz hk2 mC.out;have hsz2:=iV.size;obtain⟨ao,vc,rfl,_⟩:=x9.form;have yY:=ζ iV;have yQ:=ζ A7;have Hw:=ζ x9;unfold aO;clear hk2 iV A7 x9)|(go_at_call 109;refine(QJ (w.heap.size+4) (w.heap.size+2) s3 s3 _ ⟨3,n,n,0⟩ _ HF.out ((yQ.out.far (by simp) 0 _).far (by simp) 1 _) ((Hw.out.low (by omega) 0 _).low (by omega) 1 _)).mono ?_;rintro e w3 ⟨rfl,hb3⟩;have nA:=yY.out.zero.below hb3;have LD:=((yQ.out.far (by simp) 0 _).far (by simp) 1 _).below hb3 (by simp;omega);have LI:=((Hw.out.low (by omega) 0 _).low (by omega) 1 _).below hb3 (aaF _);obtain⟨⟨r0,r1,r2⟩,⟨s0,s1,s2⟩,⟨f0,f1,f2⟩⟩:=nA.cells;obtain⟨d1,d3⟩:=LD.two;have E5:=ζ nA;have WI:=ζ LI;unfold aO;clear hb3 nA LD LI))
      go_region
      go_wp2;rw[acX];refine bodyPost_ret (v:= .tuple #[rawVal s3.n (.slice ao s3.pairs.length vc),aO (0,0)]) (by simp[results,results68,go_sem,rawVal,aO, *]) rfl ⟨?_,.inr ⟨s3,_,?_,rfl,?_⟩⟩
      .exact((((((E5.out.jU.setCell (by simp;omega) _).setCell (by simp;omega) _).setCell (by simp) _).setCell (by simp) _).setCell (by simp) _).setCell (by simp) _).drew
      .rw[rq.out,abl,Pa.pM (by simp) hne,Pa.go_ok nO.out]
       exact HF.out
      .exact((((((((WI.out.low (by omega) 0 _).low (by omega) 1 _).low (by omega) 0 _).low (by omega) 1 _).low (by omega) 0 _).low (by omega) 1 _).drew).base (by omega))
  |cons t vs=>
   have zQ:oV wr T (us.length*4) t:=by
    have:=(HT.out.below kK.jU hT) us.length t (by rw[wM.out,BU.out];simp);rwa[abK] at this
   obtain⟨a0,a1,a2,a3⟩:=zQ;have oP:T<wr.heap.size:=block_lt_of_cell a0;have hsz:=kK.size;have q0:w.heap.size<wr.heap.size:=by omega
   have q1:w.heap.size+1<wr.heap.size:=by omega
   have q2:w.heap.size+1+1<wr.heap.size:=by omega
   have q3:w.heap.size+1+1+1<wr.heap.size:=by omega
   have Vj:=HK.out t (by rw[BU.out];simp);have b9:=ζ kK;have qh:=ζ hrd;have mC:=ζ hop;clear kK hrd hop;by_cases h1:t.kind=1
   .have j1:(t.kind==1)=true:=by simp[h1]
    have H1:=ζ h1;clear Vj h1;go_wp2_with fail;go_roundw
    case rel=>
     refine⟨us++[t],vs,k,s,v,by rw[BU.out];simp,by rw[aaZ];omega,by simp,rfl,?_,by rw[aaZ];omega,b9.out.alloc _,qh.out.alloc _,mC.out.alloc _⟩;rw[rq.out,abp,Pa.Uq H1.out,adN hku]
    case measure=>(have:=tJ.out;simp[intOf];omega)
   .have j1:(t.kind==1)=false:=by simp[h1]
    have j3:(t.kind==3)=false:=by simp;omega
    have H1:=ζ h1;clear Vj h1;by_cases hke:k=us.length
    .subst hke
     have e0:us.drop us.length=[]:=by simp
     obtain⟨⟨r0,r1,r2⟩,⟨s0,s1,s2⟩,⟨f0,f1,f2⟩⟩:=b9.out.cells;have E0:=ζ e0;clear e0;go_wp2_with fail;go_roundw
     case rel=>
      refine⟨us++[t],vs,us.length+1,s,v,by rw[BU.out];simp,by simp,by simp,by go_num,?_,by rw[aaZ];omega,b9.out.alloc _,qh.out.alloc _,mC.out.alloc _⟩;rw[rq.out,E0.out,abp,Pa.vW H1.out,ab2 (by simp)]
     case measure=>(have:=tJ.out;simp[intOf];omega)
    .have hkl:k<us.length:=by omega
     have aeW:(k:Int)<(us.length:Int):=by omega
     have hne:us.drop k≠[]:=fun h=>by have:=congrArg List.length h;simp at this;omega
     have BP:(us.drop k).length<=33554433:=by rw[acQ];omega
     have kd:0<us.length-k:=by omega
     have hpos:(0:Int)<((us.length-k:Nat):Int):=by omega
     obtain⟨⟨r0,r1,r2⟩,⟨s0,s1,s2⟩,⟨f0,f1,f2⟩⟩:=b9.out.cells;cases ny:Pa.line s (us.drop k) with
     |error x=>
      have nO:=ζ ny;clear ny;have jx:(x.1 != 0)=true:=by have:=Pa.Dl nO.out;simp;omega
      go_wp2_with (go_at_call 108;refine(GU (w.heap.size+4) (w.heap.size+2) s v T (k*4) _ _ (us.drop k) _ x nO.out (qh.out.alloc _) (mC.out.alloc _) (Nt.out.below ((aaG _ _).alloc (aaF _) _) oP) B3.out hne BP U9 (by omega) (by omega) (by simp;omega) (by omega)).mono ?_;rintro e w2 ⟨rfl,hk2⟩;have iV:=(b9.out.alloc _).kept hk2 (mC.out.alloc _);obtain⟨⟨r0,r1,r2⟩,⟨s0,s1,s2⟩,⟨f0,f1,f2⟩⟩:=iV.cells;have yY:=ζ iV;unfold aO;clear hk2 iV)
      go_region
      go_wp2;rw[acX];refine bodyPost_ret (v:= .tuple #[rawVal 0 (.slice none 0 0),aO x]) (by simp[results,results68,go_sem,rawVal,aO, *]) rfl ⟨?_,.inl ⟨x,?_,rfl⟩⟩
      .exact((((((yY.out.jU.setCell (by simp;omega) _).setCell (by simp;omega) _).setCell (by simp) _).setCell (by simp) _).setCell (by simp) _).setCell (by simp) _).drew
      .rw[rq.out,abp,Pa.pM H1.out hne]
       exact Pa.G8 nO.out
     |ok s'=>
      have nO:=ζ ny;clear ny;go_wp2_with (go_at_call 108;refine(Dk (w.heap.size+4) (w.heap.size+2) s v T (k*4) _ _ (us.drop k) _ s' nO.out (qh.out.alloc _) (mC.out.alloc _) (Nt.out.below ((aaG _ _).alloc (aaF _) _) oP) B3.out hne BP U9 (by omega) (by omega) (by simp;omega) (by omega)).mono ?_;rintro e w2 ⟨rfl,hk2,v',A7,x9⟩;have iV:=(b9.out.alloc _).kept hk2 (mC.out.alloc _);obtain⟨⟨r0,r1,r2⟩,⟨s0,s1,s2⟩,⟨f0,f1,f2⟩⟩:=iV.cells;obtain⟨y0,y1,y2,y3,y4⟩:=zk hsz hk2 mC.out;have yY:=ζ iV;have yQ:=ζ A7;have Hw:=ζ x9;unfold aO;clear hk2 iV A7 x9);go_roundw
      case rel=>
       refine⟨us++[t],vs,us.length+1,s',v',by rw[BU.out];simp,by simp,by simp,by go_num,?_,by have:=Pa.AX nO.out;rw[aaZ];simp;omega,yY.out.zero,(yQ.out.far (by simp) 0 _).far (by simp) 1 _,(Hw.out.low (by omega) 0 _).low (by omega) 1 _⟩;rw[rq.out,abp,Pa.pM H1.out hne,Pa.go_ok nO.out,ab2 (by simp)]
      case measure=>(have:=tJ.out;simp[intOf];omega)
end
section
open Go.Proofs.Tryz
open Go.RowKit
theorem iY.line {w:World} {T m:Nat} {us:List Nu.Tok} (h:iY w T m us):dG w T 0 us:=fun j t hj=>by
 obtain⟨arr,har,_,hac⟩:=h;obtain⟨h0,h1,h2,h3⟩:=hac j t hj;rw[abK];exact⟨(cell_of_row w T _ _ _ _ har).trans h0,(cell_of_row w T _ _ _ _ har).trans h1,(cell_of_row w T _ _ _ _ har).trans h2,(cell_of_row w T _ _ _ _ har).trans h3⟩
structure Two (w w1:World):Prop where
 jU:Below w.heap.size w w1
 res:w1.heap[w.heap.size]? =some (.cells #[.int .i64 0,.slice none 0 0] 86 (0,0))
 BJ:w1.heap[w.heap.size+1]? =some (.cells #[.int .i64 0,.int .i64 0] 39 (0,0))
theorem Two.new (w:World):Two w ((w.alloc (.cells #[.int .i64 0,.slice none 0 0] 86)).alloc (.cells #[.int .i64 0,.int .i64 0] 39)):=by
 refine⟨((aaG _ _).alloc (aaF _) _).alloc (by simp) _,?_,?_⟩
 .rw[aa0 _ _ _ (by simp)]
  exact heap_alloc_new w _
 .have:=heap_alloc_new (w.alloc (.cells #[.int .i64 0,.slice none 0 0] 86)) (.cells #[.int .i64 0,.int .i64 0] 39)
  simpa using this
theorem Two.size {w w1:World} (h:Two w w1):w.heap.size+2<=w1.heap.size:=lt_of_block h.BJ
theorem Two.below {w w1 w2:World} (h:Two w w1) (hb:Below w1.heap.size w1 w2):Two w w2:=
 ⟨h.jU.trans (hb.mono (by have:=h.size;omega)),(hb.block _ (lt_of_block h.res)).trans h.res,(hb.block _ (lt_of_block h.BJ)).trans h.BJ⟩
theorem Two.cells {w wr:World} (h:Two w wr):(wr.cell? ⟨w.heap.size,0,none⟩=some (.int .i64 0)/\wr.cell? ⟨w.heap.size,1,none⟩=some (.slice none 0 0)/\∀i,wr.frozen? ⟨w.heap.size,i,none⟩=false)/\
 (wr.cell? ⟨w.heap.size+1,0,none⟩=some (.int .i64 0)/\wr.cell? ⟨w.heap.size+1,1,none⟩=some (.int .i64 0)/\∀i,wr.frozen? ⟨w.heap.size+1,i,none⟩=false):=⟨gL h.res,gL h.BJ⟩
theorem Kz (ao:Option Addr) (n cap:Nat) (g:Nat->Int) (w:World) (ht:aJ w ao n g) (hao:∀x,ao=some x->x.block<w.heap.size) (hn:n<=maxLen) (hcap:n<=cap):
 Calls prog 34 #[.slice ao n cap] w (M5 (Pa.raw g n) w):=by
 have hn':=hn;unfold maxLen at hn';by_cases hA:16777216<n
 .have j0:(16777216:Int)<(n:Int):=by omega
  have A8:Pa.raw g n= .error (10,16777216):=by unfold Pa.raw;rw[if_pos hA]
  have Hv:=ζ A8;clear A8;go_enter func34,ntmps34;go_wp2;refine bodyPost_ret (v:= .tuple #[rawVal 0 (.slice none 0 0),aO (10,16777216)]) (by simp[results,results34,go_sem,rawVal,aO]) rfl ⟨?_,.inl ⟨(10,16777216),Hv.out,rfl⟩⟩;exact((aaG _ _).alloc (aaF _) _).alloc (by simp) _
 .have j0:¬((16777216:Int)<(n:Int)):=by omega
  have hb0:Below w.heap.size w ((w.alloc (.cells #[.int .i64 0,.slice none 0 0] 86)).alloc (.cells #[.int .i64 0,.int .i64 0] 39)):=((aaG _ _).alloc (aaF _) _).alloc (by simp) _;have YX:=ζ (ht.below hb0 hao);have aI:=ζ hb0;clear ht hb0;go_enter func34,ntmps34;go_wp2_with (go_at_call 67;refine(tV ao n cap g _ YX.out (fun x hx=>by have:=hao x hx;simp;omega) hn hcap).mono ?_;refine aaI ?_);refine ζ ?_;rintro e w1 ⟨hb1,hx⟩;have J8:=(Two.new w).below hb1;have ZP:=J8.jU;obtain⟨⟨r0,r1,r2⟩,⟨s0,s1,s2⟩⟩:=J8.cells;have hz:=J8.size;have af0:=ζ J8;clear J8;have q0:w.heap.size<w1.heap.size:=by omega
  have q1:w.heap.size+1<w1.heap.size:=by omega
  have j5:=ζ ZP;clear ZP hb1;rcases hx with ⟨h,_⟩|⟨_,x,hs,rfl⟩|⟨_,ts,T,hs,rfl,hT,hrow⟩
  .omega
  .have A8:Pa.raw g n= .error (x.2,x.1):=by unfold Pa.raw;rw[if_neg hA,hs]
   have abT:=Nu.vT hs;have jx:(x.2 != 0)=true:=by simp;omega
   have Hv:=ζ A8;clear A8 hs abT;go_wp2;refine bodyPost_ret (v:= .tuple #[rawVal 0 (.slice none 0 0),aO (x.2,x.1)]) (by simp[results,results34,go_sem,rawVal,aO, *]) rfl ⟨?_,.inl ⟨(x.2,x.1),Hv.out,rfl⟩⟩;exact(((j5.out.setCell (by simp) _).setCell (by simp) _).setCell (by simp) _).setCell (by simp) _
  .have A8:Pa.raw g n=Pa.go Pa.s0 (Pa.nP [] ts) n:=by unfold Pa.raw;rw[if_neg hA,hs];rfl
   obtain⟨Rg,Fz,hk⟩:=Pa.Ki hs;have hlen:=Nu.xe hs;have HL:=ζ hrow.line;have oP:T<w1.heap.size:=by obtain⟨arr,har,_⟩:=hrow;exact lt_of_block har
   have Hv:=ζ A8;have BU:=ζ Fz;have HK:=ζ hk;clear A8 hs hrow Fz hk;go_wp2_with (go_at_call 68;refine(RD T _ n ts Rg _ HL.out oP (by omega) (aaF _) BU.out HK.out).mono ?_;refine aaI ?_);refine ζ ?_;rintro e w2 ⟨hb2,hx⟩;obtain⟨⟨r0,r1,r2⟩,⟨s0,s1,s2⟩⟩:=(af0.out.below hb2).cells;have rH:=ζ (j5.out.trans (hb2.mono (by omega)));clear hb2;unfold rawVal aO at hx;rcases hx with ⟨x,hr,rfl⟩|⟨s,v,hr,rfl,hop⟩
   .have HR:=ζ hr
    clear hr;go_wp2;refine bodyPost_ret (v:= .tuple #[rawVal 0 (.slice none 0 0),aO x]) (by simp[results,results34,go_sem,rawVal,aO, *]) rfl ⟨?_,.inl ⟨x,Hv.out.trans HR.out,rfl⟩⟩;exact(((rH.out.setCell (by simp) _).setCell (by simp) _).setCell (by simp) _).setCell (by simp) _
   .have HR:=ζ hr
    clear hr;obtain⟨va,vc,rfl,_⟩:=hop.form;have mC:=ζ hop;clear hop;go_wp2;refine bodyPost_ret (v:= .tuple #[rawVal s.n (.slice va s.pairs.length vc),aO (0,0)]) (by simp[results,results34,go_sem,rawVal,aO, *]) rfl ⟨?_,.inr ⟨s,_,Hv.out.trans HR.out,rfl,?_⟩⟩
    .exact(((rH.out.setCell (by simp) _).setCell (by simp) _).setCell (by simp) _).setCell (by simp) _
    .exact((((mC.out.low (by omega) 0 _).low (by omega) 1 _).low (by omega) 0 _).low (by omega) 1 _).base (by omega)
end
end Go.Proofs.YtdbjpbjocmcpkaaGreatDoor
