import Derived.Test.YtdbjpbjocmcpkaaGreatDoorMg11
import Derived.Test.YtdbjpbjocmcpkaaGreatDoorMg04
import Derived.BigRegion
import Derived.Deep.RegionLaw
set_option maxHeartbeats 4000000
set_option maxRecDepth 100000
namespace Go.Proofs.YtdbjpbjocmcpkaaGreatDoor
section
open Go.Proofs.Tryz
open Go.RowKit Go.Sort
def EX (f:FuncId):Value:= .func (.func f) #[] #[]
def GG (b:Bool):List Value:=
 [.int .i64 1,EX 50,.int .i64 181,EX 51]++
 (if b then [.int .i64 182,EX 52,.int .i64 183,EX 53]
 else [.int .i64 184,EX 54,.int .i64 185,EX 55])
def VF (b:Bool) (w:World) (e:Ending) (w':World):Prop:=
 ∃g c,e= .returned (.slice (some ⟨g,0,none⟩) 4 c)/\w.heap.size<=g/\(∀j u,(GG b)[j]? =some u->w'.cell? ⟨g,j,none⟩=some u)/\Below w.heap.size w w'
theorem yV {w:World} {g:Nat} {xs:List Value} {ys:Array Value} {t:TypeId} {fr:Nat×Nat} (h:w.heap[g]? =some (.cells (xs.toArray++ys) t fr)):∀j u,xs[j]? =some u->w.cell? ⟨g,j,none⟩=some u:=fun j u hj=>by
 have hl:=(aah.1 hj).1;have e:(xs.toArray++ys)[j]? =some u:=by
  rw[aep (by simpa using hl)];simpa using hj
 simp[World.cell?,h,e]
theorem EZ {X:World} {A B Z:Array Value} {g:Nat} {t:TypeId} {fr:Nat×Nat} {xs:List Value} (hx:X.heap[g]? =some (.cells (A++(B++Z)) t fr)) (hd:A.toList++B.toList=xs):X.heap[g]? =some (.cells (xs.toArray++Z) t fr):=by
 rw[hx,<-Array.append_assoc]
 congr 3
 apply Array.ext';simpa using hd
theorem tQ (w:World) (a b c:Obj):(((w.alloc a).alloc b).alloc c).drew.heap[w.heap.size+1+1]? =some c:=by
 have h:=heap_alloc_new ((w.alloc a).alloc b) c;rw[abk,abk] at h;exact h
theorem qR (b:Bool) (w:World):Calls prog 29 #[.bool b] w (VF b w):=by
 cases b with
 |true=>
  go_enter func29,ntmps29;go_wp2;go_ret;exact⟨_,_,rfl,by omega,yV (EZ (xs:=GG true) (tQ _ _ _ _) rfl),((((aae _ _).alloc (aad _) _).alloc (by simp) _).alloc (by simp;omega) _).drew⟩
 |false=>
  go_enter func29,ntmps29;go_wp2;go_ret;exact⟨_,_,rfl,by omega,yV (EZ (xs:=GG false) (tQ _ _ _ _) rfl),((((aae _ _).alloc (aad _) _).alloc (by simp) _).alloc (by simp;omega) _).drew⟩
end
section
namespace Pa
open Nu (Tok)
structure St where
 begun:Bool
 n:Int
 m:Int
 pairs:List (Int×Int)
def s0:St:=⟨false,0,0,[]⟩
def tk (l:List Tok) (i:Nat):Tok:=l.getD i ⟨0,0,0,0⟩
def header (s:St) (l:List Tok):Except (Int×Int) St:=
 if l.length≠2 then .error (20,(tk l 0).at')
 else if 1048576<(tk l 0).num then .error (21,(tk l 0).at')
 else if 2097152<(tk l 1).num then .error (22,(tk l 1).at')
 else .ok ⟨true,(tk l 0).num,(tk l 1).num,s.pairs⟩
def yU (s:St) (l:List Tok):Except (Int×Int) St:=
 if (s.pairs.length:Int)=s.m then .error (26,(tk l 0).at')
 else if l.length≠2 then .error (23,(tk l 0).at')
 else if s.n<=(tk l 0).num then .error (24,(tk l 0).at')
 else if s.n<=(tk l 1).num then .error (24,(tk l 1).at')
 else .ok ⟨s.begun,s.n,s.m,s.pairs++[((tk l 0).num,(tk l 1).num)]⟩
def line (s:St) (l:List Tok):Except (Int×Int) St:=if s.begun=true then yU s l else header s l
def fin (s:St) (a:Int):Except (Int×Int) St:=
 if s.begun=false then .error (20,a) else if (s.pairs.length:Int)<s.m then .error (25,a) else .ok s
def pT:List Tok->List Tok->List (List Tok)
 |_,[]=>[]
 |cur,t::ts=>if t.kind=1 then pT (cur++[t]) ts else if cur=[] then pT [] ts else cur::pT [] ts
def run:St->List (List Tok)->Except (Int×Int) St
 |s,[]=> .ok s
 |s,l::ls=>match line s l with
  | .error x=> .error x
  | .ok s'=>run s' ls
def Rf (ls:List (List Tok)) (n:Int):Except (Int×Int) St:=match run s0 ls with
 | .error x=> .error x
 | .ok s=>fin s n
def raw (g:Nat->Int) (n:Nat):Except (Int×Int) St:=
 if 16777216<n then .error (10,16777216)
 else match Nu.scan g n with
  | .error x=> .error (x.2,x.1)
  | .ok ts=>Rf (pT [] ts) n
def go (s:St) (ls:List (List Tok)) (n:Int):Except (Int×Int) St:=match run s ls with
 | .error x=> .error x
 | .ok s=>fin s n
theorem ET {s:St} {l:List Tok} {ls:List (List Tok)} {n:Int} {x:Int×Int} (h:line s l= .error x):go s (l::ls) n= .error x:=by simp[go,run,h]
theorem go_ok {s s':St} {l:List Tok} {ls:List (List Tok)} {n:Int} (h:line s l= .ok s'):go s (l::ls) n=go s' ls n:=by simp[go,run,h]
theorem Q4 {cur ts:List Tok} {t:Tok} (h:t.kind=1):pT cur (t::ts)=pT (cur++[t]) ts:=by simp[pT,h]
theorem uf {ts:List Tok} {t:Tok} (h:t.kind≠1):pT [] (t::ts)=pT [] ts:=by simp[pT,h]
theorem nO {cur ts:List Tok} {t:Tok} (h:t.kind≠1) (hc:cur≠[]):pT cur (t::ts)=cur::pT [] ts:=by simp[pT,h,hc]
theorem IE {g:Nat->Int} {n p p':Nat} {t:Tok} (hp:p<=n) (h:Nu.next g n p= .ok (t,p')) (h3:t.kind=3):t=⟨3,n,n,0⟩:=by
 have hs:=Nu.iK Nu.av g n p hp;by_cases h1:Nu.skip Nu.av g n p=n
 .rw[h1] at hs
  rw[Nu.nK hs] at h;cases h;rfl
 .have hlt:Nu.skip Nu.av g n p<n:=adI hs.hi h1
  cases hd:Nu.isDigit (g (Nu.skip Nu.av g n p))
  .by_cases h10:g (Nu.skip Nu.av g n p)=10
   .rw[Nu.lG hs hlt h10] at h
    cases h;simp at h3
   .rw[Nu.lI hs hlt hd h10] at h
    cases h
  .have hr:=Nu.iK Nu.isDigit g n (Nu.skip Nu.av g n p) hs.hi
   by_cases hb:9<Nu.skip Nu.isDigit g n (Nu.skip Nu.av g n p)-Nu.skip Nu.av g n p\/(1<Nu.skip Nu.isDigit g n (Nu.skip Nu.av g n p)-Nu.skip Nu.av g n p/\g (Nu.skip Nu.av g n p)=48)
   .rw[Nu.nL hs hlt hd hr hb] at h
    cases h
   .rw[Nu.nJ hs hlt hd hr hb] at h
    cases h;simp at h3
theorem vw {g:Nat->Int} {n:Nat}:∀{k p:Nat} {ts:List Tok},p<=n->n-p<k->Nu.dh g n k p= .ok ts->∃us,ts=us++[⟨3,n,n,0⟩]/\∀t∈us,t.kind=1\/t.kind=2
 |0,p,ts,_,hk,_=>by omega
 |k+1,p,ts,hp,hk,h=>by
  cases hx:Nu.next g n p with
  |error x=>rw[Nu.iL k hx] at h;cases h
  |ok y=>
   obtain⟨u,p'⟩:=y;have hm:=Nu.jT hp hx;have hf:=Nu.Bd hp hx;by_cases h3:u.kind=3
   .rw[Nu.jP k hx h3] at h
    cases h;exact⟨[],by rw[IE hp hx h3];rfl,fun t ht=>by cases ht⟩
   .rw[Nu.jO k hx h3] at h
    have hlt:=hm.2 h3;cases hr:Nu.dh g n k p' with
    |error x=>rw[hr] at h;cases h
    |ok us=>
     rw[hr] at h;cases h;obtain⟨vs,rfl,hv⟩:=vw hm.1 (by omega) hr;refine⟨u::vs,rfl,fun t ht=> ?_⟩;rcases aaU.1 ht with rfl|ht
     .have:=hf.1;omega
     .exact hv t ht
theorem Hz {g:Nat->Int} {n:Nat} {ts:List Tok} (h:Nu.scan g n= .ok ts):∃us,ts=us++[⟨3,n,n,0⟩]/\∀t∈us,t.kind=1\/t.kind=2:=
 vw (aax _) (by omega) h
end Pa
end
section
open Go.Proofs.Tryz
open Go.RowKit
def cJ (w:World) (b:Nat) (s:Pa.St) (v:Value):Prop:=
 w.heap[b]? =some (.cells #[.bool s.begun,.int .i64 s.n,.int .i64 s.m,v] 183 (0,0))
section
variable {w w':World} {b:Nat} {s:Pa.St} {v:Value}
theorem cJ.lt (h:cJ w b s v):b<w.heap.size:=lt_of_block h
theorem cJ.c0 (h:cJ w b s v):w.cell? ⟨b,0,none⟩=some (.bool s.begun):=by unfold cJ at h;simp[World.cell?,h]
theorem cJ.c1 (h:cJ w b s v):w.cell? ⟨b,1,none⟩=some (.int .i64 s.n):=by unfold cJ at h;simp[World.cell?,h]
theorem cJ.c2 (h:cJ w b s v):w.cell? ⟨b,2,none⟩=some (.int .i64 s.m):=by unfold cJ at h;simp[World.cell?,h]
theorem cJ.c3 (h:cJ w b s v):w.cell? ⟨b,3,none⟩=some v:=by unfold cJ at h;simp[World.cell?,h]
theorem cJ.free (h:cJ w b s v) (i:Nat):w.frozen? ⟨b,i,none⟩=false:=by unfold cJ at h;simp[World.frozen?,h]
theorem cJ.below {B:Nat} (h:cJ w b s v) (hb:Below B w w') (hlt:b<B):cJ w' b s v:=(hb.block b hlt).trans h
end
def mo (t:Nu.Tok):Value:= .agg #[.int .i64 t.kind,.int .i64 t.at',.int .i64 t.fin,.int .i64 t.num]
def aN (x:Int×Int):Value:= .agg #[.int .i64 x.1,.int .i64 x.2]
theorem dR (c:Int) (t:Nu.Tok) (w:World):
 Calls prog 156 #[.int .i64 c,mo t] w fun e w'=>e= .returned (aN (c,t.at'))/\Below w.heap.size w w':=by
 unfold mo aN;go_enter func156,ntmps156;go_wp2;exact bodyPost_ret (v:= .agg #[.int .i64 c,.int .i64 t.at']) (by simp[results,results156,go_sem]) rfl ⟨rfl,((aae _ _).alloc (aad _) _).alloc (by simp) _⟩
theorem o8 {W w1:World} (hb:Below W.heap.size W w1):(∀b o,b<W.heap.size->w1.cell? ⟨b,o,none⟩=W.cell? ⟨b,o,none⟩)/\(∀b o,b<W.heap.size->w1.frozen? ⟨b,o,none⟩=W.frozen? ⟨b,o,none⟩):=
 ⟨fun b o h=>hb.cell (p:=⟨b,o,none⟩) h,fun b o h=>hb.frozen (p:=⟨b,o,none⟩) h⟩
def Ns (r:Except (Int×Int) Pa.St):Int×Int:=match r with
 | .error x=>x
 | .ok _=>(0,0)
def jJ (r:Except (Int×Int) Pa.St):Value:=aN (Ns r)
theorem J3 (b:Nat) (s:Pa.St) (ao:Option Addr) (cap:Nat) (t:Nu.Tok) (w:World) (hr:cJ w b s (.slice ao s.pairs.length cap)):
 Calls prog 109 #[.pointer (some ⟨b,0,none⟩),mo t] w fun e w'=>e= .returned (jJ (Pa.fin s t.at'))/\Below w.heap.size w w':=by
 have hlt:=hr.lt;have c0:=hr.c0;have c2:=hr.c2;have c3:=hr.c3;clear hr;obtain⟨begun,n,m,ps⟩:=s;dsimp only at c0 c2 c3;unfold Pa.fin jJ Ns;dsimp only;cases begun
 .rw[if_pos rfl]
  unfold mo;go_enter func109,ntmps109;go_wp2_with (go_at_call 156;refine(dR 20 t _).mono ?_;refine aaj ?_);refine ζ ?_;rintro e w1 ⟨rfl,hb⟩;unfold aN;obtain⟨hc,hf⟩:=o8 hb;have hz:=hb.size;simp at hz;go_wp2;refine bodyPost_ret (v:= .agg #[.int .i64 20,.int .i64 t.at']) (by simp[results,results109,go_sem,hc]) rfl ⟨rfl,?_⟩;exact((((((aae _ _).alloc (aad _) _).alloc (by simp) _).trans (hb.mono (by simp;omega))).setCell (by simp) _).setCell (by simp) _)
 .rw[if_neg (by simp)]
  by_cases hl:(ps.length:Int)<m
  .rw[if_pos hl]
   unfold mo;go_enter func109,ntmps109;go_wp2_with fail;go_quiet (fail);go_wp2_with (go_at_call 156;refine(dR 25 t _).mono ?_;refine aaj ?_);refine ζ ?_;rintro e w1 ⟨rfl,hb⟩;unfold aN;obtain⟨hc,hf⟩:=o8 hb;have hz:=hb.size;simp at hz;go_wp2;refine bodyPost_ret (v:= .agg #[.int .i64 25,.int .i64 t.at']) (by simp[results,results109,go_sem,hc]) rfl ⟨rfl,?_⟩;exact(((below_drewN (((aae _ _).alloc (aad _) _).alloc (by simp) _) nq).trans (hb.mono (by simp;omega))).setCell (by simp) _).setCell (by simp) _
  .rw[if_neg hl]
   unfold mo;go_enter func109,ntmps109;go_wp2_with fail;go_quiet (fail);go_wp2;refine bodyPost_ret (v:= .agg #[.int .i64 0,.int .i64 0]) (by simp[results,results109,go_sem]) rfl ⟨rfl,?_⟩;exact((below_drewN (((aae _ _).alloc (aad _) _).alloc (by simp) _) nq).setCell (by simp) _).setCell (by simp) _
end
section
open Go.Proofs.Tryz
open Go.RowKit
def nk (w:World) (T o:Nat) (t:Nu.Tok):Prop:=
 w.cell? ⟨T,o,none⟩=some (.int .i64 t.kind)/\w.cell? ⟨T,o+1,none⟩=some (.int .i64 t.at')/\w.cell? ⟨T,o+2,none⟩=some (.int .i64 t.fin)/\w.cell? ⟨T,o+3,none⟩=some (.int .i64 t.num)
def cO (w:World) (T o:Nat) (l:List Nu.Tok):Prop:=∀j t,l[j]? =some t->nk w T (o+j*4) t
theorem nk.lt {w:World} {T o:Nat} {t:Nu.Tok} (h:nk w T o t):T<w.heap.size:=block_lt_of_cell h.1
theorem nk.below {w w':World} {B T o:Nat} {t:Nu.Tok} (h:nk w T o t) (hb:Below B w w') (hT:T<B):nk w' T o t:=
 ⟨(hb.cell (p:=⟨T,o,none⟩) hT).trans h.1,(hb.cell (p:=⟨T,o+1,none⟩) hT).trans h.2.1,(hb.cell (p:=⟨T,o+2,none⟩) hT).trans h.2.2.1,(hb.cell (p:=⟨T,o+3,none⟩) hT).trans h.2.2.2⟩
theorem cO.below {w w':World} {B T o:Nat} {l:List Nu.Tok} (h:cO w T o l) (hb:Below B w w') (hT:T<B):cO w' T o l:=
 fun j t hj=>(h j t hj).below hb hT
theorem cO.fst {w:World} {T o:Nat} {l:List Nu.Tok} (h:cO w T o l) (hl:l≠[]):nk w T o (Pa.tk l 0):=by
 cases l with
 |nil=>exact absurd rfl hl
 |cons t l=>simpa[Pa.tk] using h 0 t rfl
theorem cO.snd {w:World} {T o:Nat} {l:List Nu.Tok} (h:cO w T o l) (hl:l.length=2):nk w T (o+4) (Pa.tk l 1):=by
 cases l with
 |nil=>simp at hl
 |cons t l=>cases l with
  |nil=>simp at hl
  |cons u l=>simpa[Pa.tk] using h 1 u rfl
theorem DU (w:World) (r:Option Nat):w.grownBy w r:=⟨rfl,rfl,rfl,aad _,fun _ _ _=>rfl⟩
theorem cJ.put {w:World} {b:Nat} {s:Pa.St} {v:Value} (h:cJ w b s v) (x:Bool) (n m:Int) (ps:List (Int×Int)):
 cJ (((w.setCell ⟨b,0,none⟩ (.bool x)).setCell ⟨b,1,none⟩ (.int .i64 n)).setCell ⟨b,2,none⟩ (.int .i64 m)) b ⟨x,n,m,ps⟩ v:=by
 unfold cJ at h ⊢;have h1:=heap_setCell_same w b 0 _ _ (.bool x) h;have h2:=heap_setCell_same _ b 1 _ _ (.int .i64 n) h1;have h3:=heap_setCell_same _ b 2 _ _ (.int .i64 m) h2;simpa using h3
theorem cJ.alloc {w:World} {b:Nat} {s:Pa.St} {v:Value} (h:cJ w b s v) (o:Obj):cJ (w.alloc o) b s v:=(aaF w o b h.lt).trans h
theorem qY {w w':World} {b:Option Nat} (h:Below w.heap.size w w'):w.grownBy w' b/\Below w.heap.size w w':=⟨⟨h.os,h.tape,h.output,h.size,fun k hk _=>h.block k hk⟩,h⟩
theorem JA (b:Nat) (s:Pa.St) (v:Value) (T o cap:Nat) (l:List Nu.Tok) (w:World) (hr:cJ w b s v) (hl:cO w T o l) (hne:l≠[]) (hlen:l.length<=33554433) (Gu:T≠b):
 Calls prog 154 #[.pointer (some ⟨b,0,none⟩),.slice (some ⟨T,o,none⟩) l.length cap] w fun e w'=>
  e= .returned (jJ (Pa.header s l))/\w.grownBy w' (some b)/\match Pa.header s l with
   | .error _=>Below w.heap.size w w'
   | .ok s'=>cJ w' b s' v:=by
 have hlt:=hr.lt;have hpos:0<l.length:=acq.2 hne;have nh:=(hl.fst hne).lt;obtain⟨k0,k1,k2,k3⟩:=hl.fst hne;have ap:(0:Int)<(l.length:Int):=by omega
 unfold Pa.header jJ Ns;by_cases h2:l.length=2
 .have j0:((l.length:Int) != 2)=false:=by simp;omega
  have ap1:(1:Int)<(l.length:Int):=by omega
  obtain⟨q0,q1,q2,q3⟩:=hl.snd h2;rw[if_neg (by omega)];by_cases hn:1048576<(Pa.tk l 0).num
  .rw[if_pos hn]
   go_enter func154,ntmps154;go_wp2_with (go_at_call 156;refine(dR 21 (Pa.tk l 0) _).mono ?_;rintro e w1 ⟨rfl,hb⟩;unfold aN;obtain⟨hc,hf⟩:=o8 hb;have hz:=hb.size;simp at hz);refine bodyPost_ret (v:= .agg #[.int .i64 21,.int .i64 (Pa.tk l 0).at']) (by simp[results,results154,go_sem,hc]) rfl ⟨rfl,?_⟩;exact qY ((((((aae _ _).alloc (aad _) _)).trans (hb.mono (by simp))).setCell (by simp) _).setCell (by simp) _)
  .rw[if_neg hn]
   by_cases hm:2097152<(Pa.tk l 1).num
   .rw[if_pos hm]
    go_enter func154,ntmps154;go_wp2_with (go_at_call 156;refine(dR 22 (Pa.tk l 1) _).mono ?_;rintro e w1 ⟨rfl,hb⟩;unfold aN;obtain⟨hc,hf⟩:=o8 hb;have hz:=hb.size;simp at hz);refine bodyPost_ret (v:= .agg #[.int .i64 22,.int .i64 (Pa.tk l 1).at']) (by simp[results,results154,go_sem,hc]) rfl ⟨rfl,?_⟩;exact qY ((((((aae _ _).alloc (aad _) _)).trans (hb.mono (by simp))).setCell (by simp) _).setCell (by simp) _)
   .rw[if_neg hm]
    have c0:=hr.c0;have c1:=hr.c1;have c2:=hr.c2;have f0:=hr.free 0;have f1:=hr.free 1;have f2:=hr.free 2;have ag6:b≠T:=fun h=>Gu h.symm
    go_enter func154,ntmps154;go_wp2_with fail
    go_region
    go_wp2;refine bodyPost_ret (v:= .agg #[.int .i64 0,.int .i64 0]) (by simp[results,results154,go_sem]) rfl ⟨rfl,?_,?_⟩
    .exact DV (dO (grownBy_setCell (grownBy_setCell (grownBy_setCell (DU _ _) 0 _) 1 _) 2 _) _)
    .exact(hr.put true _ _ s.pairs).alloc _
 .have j0:((l.length:Int) != 2)=true:=by simp;omega
  rw[if_pos h2];go_enter func154,ntmps154;go_wp2_with (go_at_call 156;refine(dR 20 (Pa.tk l 0) _).mono ?_;rintro e w1 ⟨rfl,hb⟩;unfold aN;obtain⟨hc,hf⟩:=o8 hb;have hz:=hb.size;simp at hz);refine bodyPost_ret (v:= .agg #[.int .i64 20,.int .i64 (Pa.tk l 0).at']) (by simp[results,results154,go_sem,hc]) rfl ⟨rfl,?_⟩;exact qY ((((((aae _ _).alloc (aad _) _)).trans (hb.mono (by simp))).setCell (by simp) _).setCell (by simp) _)
end
section
open Go.Proofs.Tryz
open Go.RowKit
theorem Tryz.Pe:(prog.info? 57).map (fun i=>(i.zero,i.size,i.bytes))=some (some (.agg #[.int .i64 0,.int .i64 0]),2,16):=by kernel_rfl
def xM (ps:List (Int×Int)):List Value:=ps.flatMap fun p=>[.int .i64 p.1,.int .i64 p.2]
theorem JT (ps:List (Int×Int)) (p:Int×Int):xM (ps++[p])=xM ps++[.int .i64 p.1,.int .i64 p.2]:=by simp[xM]
def aM (w:World) (B:Nat) (v:Value) (ps:List (Int×Int)):Prop:=w.ownsRow B 57 2 v ps.length (xM ps)
structure Kept (b:Nat) (v:Value) (w w':World):Prop where
 os:w'.os=w.os
 tape:w'.tape=w.tape
 output:w'.output=w.output
 size:w.heap.size<=w'.heap.size
 block:∀k,k<w.heap.size->k≠b->some k≠v.ownBlock->w'.heap[k]? =w.heap[k]?
theorem Kept.of_below {b:Nat} {v:Value} {w w':World} (h:Below w.heap.size w w'):Kept b v w w':=⟨h.os,h.tape,h.output,h.size,fun k hk _ _=>h.block k hk⟩
theorem Kept.OU {b:Nat} {v:Value} {w w':World} (h:w.grownBy w' (some b)):Kept b v w w':=⟨h.os,h.tape,h.output,h.size,fun k hk hne _=>h.block k hk (by simpa using hne)⟩
def q7 (B b:Nat) (v:Value) (r:Except (Int×Int) Pa.St) (w w':World):Prop:=match r with
 | .error _=>True
 | .ok s'=>∃v',cJ w' b s' v'/\aM w' B v' s'.pairs/\∀g,v'.ownBlock=some g->v.ownBlock=some g\/w.heap.size<=g
def su (B b:Nat) (v:Value) (r:Except (Int×Int) Pa.St) (w:World) (e:Ending) (w':World):Prop:=
 e= .returned (jJ r)/\Kept b v w w'/\q7 B b v r w w'
theorem aM.form {w:World} {B:Nat} {v:Value} {ps:List (Int×Int)} (h:aM w B v ps):∃ao cap,v= .slice ao ps.length cap/\ps.length<=cap/\(∀x,ao=some x->B<=x.block/\x.block<w.heap.size):=by
 rcases h.2 with ⟨rfl,h0⟩|⟨g,cap,cur,rfl,hg,hh,hc,_⟩
 .exact⟨none,0,by rw[h0],by omega,fun x h=>by cases h⟩
 .exact⟨_,cap,rfl,hc,fun x h=>by cases h;exact⟨hg,lt_of_block hh⟩⟩
theorem aM.far {w:World} {B b:Nat} {v:Value} {ps:List (Int×Int)} (h:aM w B v ps) (hb:b<B):v.ownBlock≠some b:=by
 obtain⟨ao,cap,rfl,_,hx⟩:=h.form;cases ao with
 |none=>simp[Value.ownBlock]
 |some x=>have:=hx x rfl;simp[Value.ownBlock];omega
theorem aM.grown {w w':World} {B b:Nat} {v:Value} {ps:List (Int×Int)} (h:aM w B v ps) (hg:w.grownBy w' (some b)) (hb:b<B):aM w' B v ps:=by
 refine⟨h.1,?_⟩;rcases h.2 with h|⟨g,cap,cur,e,hgB,hh,hr⟩
 .exact .inl h
 .exact .inr ⟨g,cap,cur,e,hgB,(hg.block g (lt_of_block hh) (by simp;omega)).trans hh,hr⟩
theorem aM.below {w w':World} {B A:Nat} {v:Value} {ps:List (Int×Int)} (h:aM w B v ps) (hb:Below A w w') (hA:w.heap.size<=A):aM w' B v ps:=by
 refine⟨h.1,?_⟩;rcases h.2 with h|⟨g,cap,cur,e,hgB,hh,hr⟩
 .exact .inl h
 .exact .inr ⟨g,cap,cur,e,hgB,(hb.block g (by have:=lt_of_block hh;omega)).trans hh,hr⟩
theorem fK {w:World} {r:Nat} {a b:Value} {t:TypeId} (h:w.heap[r]? =some (.cells #[a,b] t (0,0))):w.cell? ⟨r,0,none⟩=some a/\w.cell? ⟨r,1,none⟩=some b/\∀i,w.frozen? ⟨r,i,none⟩=false:=by
 refine⟨?_,?_,fun i=> ?_⟩<;>simp[World.cell?,World.frozen?,h]
theorem cJ.store {w:World} {b:Nat} {s:Pa.St} {v:Value} (h:cJ w b s v) (v':Value) (ps:List (Int×Int)):cJ (w.setCell ⟨b,3,none⟩ v') b ⟨s.begun,s.n,s.m,ps⟩ v':=by
 unfold cJ at h ⊢;have h1:=heap_setCell_same w b 3 _ _ v' h;simpa using h1
theorem PR {B b:Nat} {s:Pa.St} {va:Option Addr} {vc gg tN:Nat} {p q:Int} {w W w1:World} {x:Obj} (hlt:b<w.heap.size) (hb:b<B) (hbW:Below w.heap.size w W) (Ji:W.heap.size=w.heap.size+1)
 (hr:cJ W b s (.slice va s.pairs.length vc)) (hp:aM W B (.slice va s.pairs.length vc) s.pairs) (hv:∀x,va=some x->B<=x.block/\x.block<w.heap.size)
 (hown:w1.ownsRow B 57 2 (.slice (some ⟨gg,0,none⟩) (s.pairs.length+1) tN) (s.pairs.length+1) (xM s.pairs++[.int .i64 p,.int .i64 q])) (hg:(W.alloc x).drew.grownBy w1 (Value.slice va s.pairs.length vc).ownBlock)
 (hat:(Value.slice va s.pairs.length vc).ownBlock=some gg\/gg=W.heap.size+1) (a0 a1:Value):
 Kept b (.slice va s.pairs.length vc) w (((w1.setCell ⟨b,3,none⟩ (.slice (some ⟨gg,0,none⟩) (s.pairs.length+1) tN)).setCell ⟨w.heap.size,0,none⟩ a0).setCell ⟨w.heap.size,1,none⟩ a1)/\
 ∃v',cJ (((w1.setCell ⟨b,3,none⟩ (.slice (some ⟨gg,0,none⟩) (s.pairs.length+1) tN)).setCell ⟨w.heap.size,0,none⟩ a0).setCell ⟨w.heap.size,1,none⟩ a1) b ⟨s.begun,s.n,s.m,s.pairs++[(p,q)]⟩ v'/\
  aM (((w1.setCell ⟨b,3,none⟩ (.slice (some ⟨gg,0,none⟩) (s.pairs.length+1) tN)).setCell ⟨w.heap.size,0,none⟩ a0).setCell ⟨w.heap.size,1,none⟩ a1) B v' (s.pairs++[(p,q)])/\∀g,v'.ownBlock=some g->(Value.slice va s.pairs.length vc).ownBlock=some g\/w.heap.size<=g:=by
 have rT:∀k,k≠b->k≠w.heap.size->(((w1.setCell ⟨b,3,none⟩ (.slice (some ⟨gg,0,none⟩) (s.pairs.length+1) tN)).setCell ⟨w.heap.size,0,none⟩ a0).setCell ⟨w.heap.size,1,none⟩ a1).heap[k]? =w1.heap[k]? :=fun k h1 h2=>by
  rw[heap_setCell_other _ ⟨w.heap.size,1,none⟩ k a1 h2,heap_setCell_other _ ⟨w.heap.size,0,none⟩ k a0 h2,heap_setCell_other _ ⟨b,3,none⟩ k _ h1]
 have hne:∀k,k<B->some k≠(Value.slice va s.pairs.length vc).ownBlock:=fun k hk=>(hp.far hk).symm
 have hold:∀k,k<W.heap.size->some k≠(Value.slice va s.pairs.length vc).ownBlock->w1.heap[k]? =W.heap[k]? :=fun k hk h=>by
  rw[hg.block k (by show k<(W.alloc x).heap.size;simp;omega) h];exact aaF W x k hk
 have hsz:=hg.size;have hsz':W.heap.size+1<=w1.heap.size:=by
  have:(W.alloc x).heap.size<=w1.heap.size:=hsz;simpa using this
 have hgg:gg≠b/\gg≠w.heap.size:=by
  rcases hat with h|h
  .cases va with
   |none=>simp[Value.ownBlock] at h
   |some y=>have:=hv y rfl;simp[Value.ownBlock] at h;omega
  .omega
 have hrd:cJ (w1.setCell ⟨b,3,none⟩ (.slice (some ⟨gg,0,none⟩) (s.pairs.length+1) tN)) b ⟨s.begun,s.n,s.m,s.pairs++[(p,q)]⟩ (.slice (some ⟨gg,0,none⟩) (s.pairs.length+1) tN):=by
  have h1:cJ w1 b s (.slice va s.pairs.length vc):=(hold b (by omega) (hne b hb)).trans hr;exact h1.store _ _
 refine⟨⟨?_,?_,?_,by simp;omega,fun k hk hkb hkv=> ?_⟩,.slice (some ⟨gg,0,none⟩) (s.pairs.length+1) tN,?_,?_,fun g h=> ?_⟩
 .exact(hg.os.trans hbW.os)
 .exact(hg.tape.trans hbW.tape)
 .exact(hg.output.trans hbW.output)
 .rw[rT k hkb (by omega),hold k (by omega) hkv]
  exact hbW.block k (by omega)
 .unfold cJ
  rw[heap_setCell_other _ ⟨w.heap.size,1,none⟩ b a1 (by simp;omega),heap_setCell_other _ ⟨w.heap.size,0,none⟩ b a0 (by simp;omega)];exact hrd
 .unfold aM
  rw[JT,aar];refine⟨hown.1,?_⟩;rcases hown.2 with ⟨h,_⟩|⟨g',c',cur,e,hgB,hh,LV⟩
  .cases h
  .cases e
   exact .inr ⟨gg,tN,cur,rfl,hgB,(rT gg hgg.1 hgg.2).trans hh,LV⟩
 .simp[Value.ownBlock] at h
  subst h;rcases hat with h|h
  .exact .inl h
  .exact .inr (by omega)
theorem PS (B b:Nat) (s:Pa.St) (v:Value) (T o cap:Nat) (l:List Nu.Tok) (w:World) (hr:cJ w b s v) (hp:aM w B v s.pairs) (hl:cO w T o l) (hne:l≠[]) (hlen:l.length<=33554433) (hT:T<B) (hb:b<B) (hB:B<=w.heap.size) (hps:s.pairs.length<=33554432):
 Calls prog 155 #[.pointer (some ⟨b,0,none⟩),.slice (some ⟨T,o,none⟩) l.length cap] w (su B b v (Pa.yU s l) w):=by
 have hlt:=hr.lt;have hpos:0<l.length:=acq.2 hne;have nh:=(hl.fst hne).lt;obtain⟨k0,k1,k2,k3⟩:=hl.fst hne;have ap:(0:Int)<(l.length:Int):=by omega
 obtain⟨va,vc,rfl,hvc,Jf⟩:=hp.form;have c1:=hr.c1;have c2:=hr.c2;have c3:=hr.c3;have f3:=hr.free 3;have HR:=ζ hr;have HP:=ζ hp;have HVB:=ζ Jf;clear hr hp Jf;unfold su Pa.yU jJ Ns q7;by_cases hm:(s.pairs.length:Int)=s.m
 .have jm:((s.pairs.length:Int)==s.m)=true:=by simp[hm]
  rw[if_pos hm];have HM:=ζ hm;clear hm;go_enter func155,ntmps155;go_wp2_with fail;go_quiet (fail);go_wp2_with (go_at_call 156;refine(dR 26 (Pa.tk l 0) _).mono ?_;rintro e w1 ⟨rfl,hb1⟩;unfold aN;obtain⟨hc,hf⟩:=o8 hb1;have hz:=hb1.size;simp at hz);refine bodyPost_ret (v:= .agg #[.int .i64 26,.int .i64 (Pa.tk l 0).at']) (by simp[results,results155,go_sem,hc]) rfl ⟨rfl,?_,trivial⟩;exact Kept.of_below (((((below_drewN ((aae _ _).alloc (aad _) _) nq).trans (hb1.mono (by simp))).setCell (by simp) _).setCell (by simp) _))
 .have jm:((s.pairs.length:Int)==s.m)=false:=by simp[hm]
  rw[if_neg hm];have HM:=ζ hm;clear hm;by_cases h2:l.length=2
  .have j0:((l.length:Int) != 2)=false:=by simp;omega
   have ap1:(1:Int)<(l.length:Int):=by omega
   obtain⟨q0,q1,q2,q3⟩:=hl.snd h2;rw[if_neg (by omega)];by_cases hu:s.n<=(Pa.tk l 0).num
   .rw[if_pos hu]
    go_enter func155,ntmps155;go_wp2_with fail;go_quiet (fail);go_wp2_with fail;go_quiet (fail);go_wp2_with (go_at_call 156;refine(dR 24 (Pa.tk l 0) _).mono ?_;rintro e w1 ⟨rfl,hb1⟩;unfold aN;obtain⟨hc,hf⟩:=o8 hb1;have hz:=hb1.size;simp at hz);refine bodyPost_ret (v:= .agg #[.int .i64 24,.int .i64 (Pa.tk l 0).at']) (by simp[results,results155,go_sem,hc]) rfl ⟨rfl,?_,trivial⟩;exact Kept.of_below (((((below_drewN ((aae _ _).alloc (aad _) _) _).trans (hb1.mono (by simp))).setCell (by simp) _).setCell (by simp) _))
   .rw[if_neg hu]
    by_cases hv:s.n<=(Pa.tk l 1).num
    .rw[if_pos hv]
     go_enter func155,ntmps155;go_wp2_with fail;go_quiet (fail);go_wp2_with fail;go_quiet (fail);go_wp2_with fail;go_quiet (fail);go_wp2_with (go_at_call 156;refine(dR 24 (Pa.tk l 1) _).mono ?_;rintro e w1 ⟨rfl,hb1⟩;unfold aN;obtain⟨hc,hf⟩:=o8 hb1;have hz:=hb1.size;simp at hz);refine bodyPost_ret (v:= .agg #[.int .i64 24,.int .i64 (Pa.tk l 1).at']) (by simp[results,results155,go_sem,hc]) rfl ⟨rfl,?_,trivial⟩;exact Kept.of_below (((((below_drewN ((aae _ _).alloc (aad _) _) _).trans (hb1.mono (by simp))).setCell (by simp) _).setCell (by simp) _))
    .rw[if_neg hv]
     obtain⟨i0,hi,hz0,hz1,hz2⟩:=info_parts Tryz.Pe;have ab:=HP.out.far hb;have aT:=HP.out.far hT;go_enter func155,ntmps155;go_wp2_with fail;go_quiet (fail);go_wp2_with fail;go_quiet (fail);go_wp2_with fail;go_quiet (fail);go_wp2_with fail;generalize hW:(((w.alloc (.cells #[.int .i64 0,.int .i64 0] 39)).drewN _).drewN _).drewN nq=W;have hbW:Below w.heap.size w W:=by rw[<-hW];exact below_drewN (below_drewN (below_drewN ((aae _ _).alloc (aad _) _) _) _) _
     have Ji:W.heap.size=w.heap.size+1:=by rw[<-hW];simp[World.drewN]
     have hres:W.heap[w.heap.size]? =some (.cells #[.int .i64 0,.int .i64 0] 39 (0,0)):=by rw[<-hW];exact heap_alloc_new w _
     have UF:=HR.out.below hbW hlt;have hpW:=HP.out.below hbW (aad _);have e3:=UF.c3;have g3:=UF.free 3;have m3:W.cell? ⟨T,o+3,none⟩=some (.int .i64 (Pa.tk l 0).num):=(hbW.cell (p:=⟨T,o+3,none⟩) nh).trans k3;have n3:W.cell? ⟨T,o+4+3,none⟩=some (.int .i64 (Pa.tk l 1).num):=(hbW.cell (p:=⟨T,o+4+3,none⟩) nh).trans q3;have ltb:b<W.heap.size:=by omega
     have ltT:T<W.heap.size:=by omega
     have ar:some w.heap.size≠(Value.slice va s.pairs.length vc).ownBlock:=fun h=>by
      cases va with
      |none=>simp[Value.ownBlock] at h
      |some x=>have:=(HVB.out x rfl).2;simp[Value.ownBlock] at h;omega
     have zW:=ζ Ji;clear Ji;have zq:=ζ hres;have ru:=ζ UF;have HPW:=ζ hpW;have cH:=ζ hbW;have HL:=ζ hl;clear hres UF hpW hbW hW k0 k1 k2 k3 q0 q1 q2 q3 c1 c2 c3 f3 hl jm hu hv
     go_region_law
      (refine step_append_lies _ (by rfl) _ _ _ (by rfl) B 57 i0 _ 2 16 Tryz.underlying59 hi hz0 hz1 hz2 rfl (by omega) (.slice va s.pairs.length vc) s.pairs.length (xM s.pairs) (by rfl) ((HPW.out.alloc _).drew)
        ⟨W.heap.size,0,none⟩ 1 1 [.int .i64 (Pa.tk l 0).num,.int .i64 (Pa.tk l 1).num] (by rfl) (by rfl) (adB (cs:= #[.int .i64 (Pa.tk l 0).num,.int .i64 (Pa.tk l 1).num]) (t:=57) (fr:=(0,0)) (heap_alloc_new W _)) (by simp[Value.oneCell'])
        (by omega) (by unfold maxLen;omega) (by omega) (by have:=zW.out;simp;omega) (W.heap.size+1) (by simp) ?_;intro gg tN w1 hown1 hgrow hat VR;have x3:=(hgrow.cell_far ⟨b,3,none⟩ (by simp;omega) (acs ab)).trans (ru.out.alloc _).c3;have x4:=(hgrow.frozen_far ⟨b,3,none⟩ (by simp;omega) (acs ab)).trans ((ru.out.alloc _).free 3);have y0:=hgrow.block w.heap.size (by have:=zW.out;simp;omega) ar;have y1:=y0.trans ((aaF W _ _ (lt_of_block zq.out)).trans zq.out);clear y0;obtain⟨z0,z1,z2⟩:=fK y1;have Y1:=ζ y1;clear y1)
     all_goals go_wp2
     all_goals
      refine bodyPost_ret (v:= .agg #[.int .i64 0,.int .i64 0]) (by simp[results,results155,go_sem, *]) rfl ⟨rfl,?_⟩;exact PR hlt hb cH.out zW.out ru.out HPW.out HVB.out hown1 hgrow hat _ _
  .have j0:((l.length:Int) != 2)=true:=by simp;omega
   rw[if_pos h2];go_enter func155,ntmps155;go_wp2_with fail;go_quiet (fail);go_wp2_with (go_at_call 156;refine(dR 23 (Pa.tk l 0) _).mono ?_;rintro e w1 ⟨rfl,hb1⟩;unfold aN;obtain⟨hc,hf⟩:=o8 hb1;have hz:=hb1.size;simp at hz);refine bodyPost_ret (v:= .agg #[.int .i64 23,.int .i64 (Pa.tk l 0).at']) (by simp[results,results155,go_sem,hc]) rfl ⟨rfl,?_,trivial⟩;exact Kept.of_below (((((below_drewN ((aae _ _).alloc (aad _) _) nq).trans (hb1.mono (by simp))).setCell (by simp) _).setCell (by simp) _))
end
section
open Go.Proofs.Tryz
open Go.RowKit
namespace Pa
theorem Gr {s:St} {l:List Nu.Tok} {x:Int×Int} (h:header s l= .error x):20<=x.1/\x.1<=26:=by
 unfold header at h
 split at h
 .cases h;simp
 .split at h
  .cases h;simp
  .split at h
   .cases h;simp
   .cases h
theorem MA {s:St} {l:List Nu.Tok} {x:Int×Int} (h:yU s l= .error x):20<=x.1/\x.1<=26:=by
 unfold yU at h
 split at h
 .cases h;simp
 .split at h
  .cases h;simp
  .split at h
   .cases h;simp
   .split at h
    .cases h;simp
    .cases h
theorem Bp {s:St} {l:List Nu.Tok} {x:Int×Int} (h:line s l= .error x):20<=x.1/\x.1<=26:=by
 unfold line at h
 split at h
 .exact MA h
 .exact Gr h
theorem EY {s:St} {a:Int} {x:Int×Int} (h:fin s a= .error x):20<=x.1/\x.1<=26:=by
 unfold fin at h
 split at h
 .cases h;simp
 .split at h
  .cases h;simp
  .cases h
theorem NS {s s':St} {a:Int} (h:fin s a= .ok s'):s'=s:=by
 unfold fin at h
 split at h
 .cases h
 .split at h
  .cases h
  .cases h;rfl
theorem yJ {s s':St} {l:List Nu.Tok} (h:line s l= .ok s'):s'.pairs.length<=s.pairs.length+1:=by
 unfold line at h
 split at h
 .unfold yU at h
  split at h
  .cases h
  .split at h
   .cases h
   .split at h
    .cases h
    .split at h
     .cases h
     .cases h;simp
 .unfold header at h
  split at h
  .cases h
  .split at h
   .cases h
   .split at h
    .cases h
    .cases h;simp
end Pa
theorem Mi (B b:Nat) (s:Pa.St) (v:Value) (T o cap:Nat) (l:List Nu.Tok) (w:World) (hr:cJ w b s v) (hp:aM w B v s.pairs) (hl:cO w T o l) (hne:l≠[]) (hlen:l.length<=33554433) (Gu:T≠b) (hb:b<B):
 Calls prog 154 #[.pointer (some ⟨b,0,none⟩),.slice (some ⟨T,o,none⟩) l.length cap] w (su B b v (Pa.header s l) w):=by
 refine(JA b s v T o cap l w hr hl hne hlen Gu).mono ?_;rintro e w1 ⟨he,hg,hx⟩;refine⟨he,Kept.OU hg,?_⟩;unfold q7;cases hh:Pa.header s l with
 |error x=>trivial
 |ok s'=>
  rw[hh] at hx;refine⟨v,hx,?_,fun g h=> .inl h⟩;have e:s'.pairs=s.pairs:=by
   unfold Pa.header at hh
   split at hh
   .cases hh
   .split at hh
    .cases hh
    .split at hh
     .cases hh
     .cases hh;rfl
  rw[e];exact hp.grown hg hb
theorem EJ {b:Nat} {v:Value} {w w1:World} (hlt:b<w.heap.size) (hf:∀g,v.ownBlock=some g->g<w.heap.size) (hk:Kept b v (w.alloc (.cells #[.int .i64 0,.int .i64 0] 39)) w1):
 w1.heap[w.heap.size]? =some (.cells #[.int .i64 0,.int .i64 0] 39 (0,0)):=by
 rw[hk.block w.heap.size (by simp) (by omega) (fun h=>by have:=hf _ h.symm;omega)];exact heap_alloc_new w _
theorem EL {B b:Nat} {v:Value} {r:Except (Int×Int) Pa.St} {w w1:World} {x:Obj} (hlt:b<w.heap.size) (hf:∀g,v.ownBlock=some g->g<w.heap.size) (hk:Kept b v (w.alloc x) w1) (ho:q7 B b v r (w.alloc x) w1) (a0 a1:Value):
 Kept b v w ((w1.setCell ⟨w.heap.size,0,none⟩ a0).setCell ⟨w.heap.size,1,none⟩ a1)/\q7 B b v r w ((w1.setCell ⟨w.heap.size,0,none⟩ a0).setCell ⟨w.heap.size,1,none⟩ a1):=by
 have rT:∀k,k≠w.heap.size->((w1.setCell ⟨w.heap.size,0,none⟩ a0).setCell ⟨w.heap.size,1,none⟩ a1).heap[k]? =w1.heap[k]? :=fun k h=>by
  rw[heap_setCell_other _ ⟨w.heap.size,1,none⟩ k a1 h,heap_setCell_other _ ⟨w.heap.size,0,none⟩ k a0 h]
 have hsz:w.heap.size+1<=w1.heap.size:=by simpa using hk.size
 refine⟨⟨hk.os,hk.tape,hk.output,by simp;omega,fun k hk1 h1 h2=> ?_⟩,?_⟩
 .rw[rT k (by omega),hk.block k (by simp;omega) h1 h2]
  exact aaF w x k hk1
 .cases r with
  |error y=>trivial
  |ok s'=>
   obtain⟨v',hr,hp,hg⟩:=ho;refine⟨v',(rT b (by omega)).trans hr,⟨hp.1,?_⟩,fun g h=> ?_⟩
   .rcases hp.2 with h|⟨g,cap,cur,rfl,hgB,hh,LV⟩
    .exact .inl h
    .refine .inr ⟨g,cap,cur,rfl,hgB,(rT g ?_).trans hh,LV⟩
     rcases hg g rfl with h|h
     .have:=hf g h;omega
     .simp at h;omega
   .rcases hg g h with h|h
    .exact .inl h
    .exact .inr (by simp at h;omega)
theorem EM (B b:Nat) (s:Pa.St) (v:Value) (T o cap:Nat) (l:List Nu.Tok) (w:World) (hr:cJ w b s v) (hp:aM w B v s.pairs) (hl:cO w T o l) (hne:l≠[]) (hlen:l.length<=33554433) (Gu:T≠b) (hT:T<B) (hb:b<B) (hB:B<=w.heap.size) (hps:s.pairs.length<=33554432):
 Calls prog 108 #[.pointer (some ⟨b,0,none⟩),.slice (some ⟨T,o,none⟩) l.length cap] w (su B b v (Pa.line s l) w):=by
 have hlt:=hr.lt;have c0:=hr.c0;have BR:∀g,v.ownBlock=some g->g<w.heap.size:=fun g h=>by
  obtain⟨ao,cap,rfl,_,hx⟩:=hp.form;cases ao with
  |none=>simp[Value.ownBlock] at h
  |some x=>have:=hx x rfl;simp[Value.ownBlock] at h;omega
 have dJ:Below w.heap.size w (w.alloc (.cells #[.int .i64 0,.int .i64 0] 39)):=(aae _ _).alloc (aad _) _;have LZ:=hr.below dJ hlt;have Po:=hp.below dJ (aad _);have hl0:=hl.below dJ (by omega);have HR:=ζ LZ;have HP:=ζ Po;have HL:=ζ hl0;have aH:=ζ dJ;have HF:=ζ BR;clear hr hp hl LZ Po hl0 dJ BR;unfold Pa.line;cases hbg:s.begun
 .rw[if_neg (by simp)]
  rw[hbg] at c0;have Nb:=ζ hbg;clear hbg;go_enter func108,ntmps108;go_wp2_with (go_at_call 154;refine(Mi B b s v T o cap l _ HR.out HP.out HL.out hne hlen Gu hb).mono ?_;rintro e w1 ⟨rfl,hk,ho⟩;obtain⟨z0,z1,z2⟩:=fK (EJ hlt HF.out hk);unfold jJ aN;have HK:=ζ hk;have HO:=ζ ho;clear hk ho);refine bodyPost_ret (v:=jJ (Pa.header s l)) (by simp[results,results108,go_sem, *];rfl) rfl ⟨rfl,EL hlt HF.out HK.out HO.out _ _⟩
 .rw[if_pos rfl]
  rw[hbg] at c0;have Nb:=ζ hbg;clear hbg;go_enter func108,ntmps108;go_wp2_with (go_at_call 155;refine(PS B b s v T o cap l _ HR.out HP.out HL.out hne hlen hT hb (by simp;omega) hps).mono ?_;rintro e w1 ⟨rfl,hk,ho⟩;obtain⟨z0,z1,z2⟩:=fK (EJ hlt HF.out hk);unfold jJ aN;have HK:=ζ hk;have HO:=ζ ho;clear hk ho);refine bodyPost_ret (v:=jJ (Pa.yU s l)) (by simp[results,results108,go_sem, *];rfl) rfl ⟨rfl,EL hlt HF.out HK.out HO.out _ _⟩
theorem EK (B b:Nat) (s:Pa.St) (v:Value) (T o cap ln:Nat) (l:List Nu.Tok) (w:World) (x:Int×Int) (hx:Pa.line s l= .error x) (hr:cJ w b s v) (hp:aM w B v s.pairs) (hl:cO w T o l) (lN:ln=l.length) (hne:l≠[]) (hlen:l.length<=33554433) (Gu:T≠b) (hT:T<B) (hb:b<B) (hB:B<=w.heap.size) (hps:s.pairs.length<=33554432):
 Calls prog 108 #[.pointer (some ⟨b,0,none⟩),.slice (some ⟨T,o,none⟩) ln cap] w fun e w'=>e= .returned (aN x)/\Kept b v w w':=by
 subst lN;refine(EM B b s v T o cap l w hr hp hl hne hlen Gu hT hb hB hps).mono ?_;rw[hx];exact fun e w' h=>⟨h.1,h.2.1⟩
theorem Bo (B b:Nat) (s:Pa.St) (v:Value) (T o cap ln:Nat) (l:List Nu.Tok) (w:World) (s':Pa.St) (hx:Pa.line s l= .ok s') (hr:cJ w b s v) (hp:aM w B v s.pairs) (hl:cO w T o l) (lN:ln=l.length) (hne:l≠[]) (hlen:l.length<=33554433) (Gu:T≠b) (hT:T<B) (hb:b<B) (hB:B<=w.heap.size) (hps:s.pairs.length<=33554432):
 Calls prog 108 #[.pointer (some ⟨b,0,none⟩),.slice (some ⟨T,o,none⟩) ln cap] w fun e w'=>e= .returned (aN (0,0))/\Kept b v w w'/\∃v',cJ w' b s' v'/\aM w' B v' s'.pairs:=by
 subst lN;refine(EM B b s v T o cap l w hr hp hl hne hlen Gu hT hb hB hps).mono ?_;rw[hx];exact fun e w' ⟨h1,h2,v',h3,h4,_⟩=>⟨h1,h2,v',h3,h4⟩
theorem J2 (B b:Nat) (s:Pa.St) (v:Value) (t:Nu.Tok) (w:World) (x:Int×Int) (hx:Pa.fin s t.at'= .error x) (hr:cJ w b s v) (hp:aM w B v s.pairs):
 Calls prog 109 #[.pointer (some ⟨b,0,none⟩),mo t] w fun e w'=>e= .returned (aN x)/\Below w.heap.size w w':=by
 obtain⟨ao,cap,rfl,_⟩:=hp.form;refine(J3 b s ao cap t w hr).mono ?_;rw[hx];exact fun e w' h=>h
theorem NU (B b:Nat) (s s':Pa.St) (v:Value) (t:Nu.Tok) (w:World) (hx:Pa.fin s t.at'= .ok s') (hr:cJ w b s v) (hp:aM w B v s.pairs):
 Calls prog 109 #[.pointer (some ⟨b,0,none⟩),mo t] w fun e w'=>e= .returned (aN (0,0))/\Below w.heap.size w w':=by
 obtain⟨ao,cap,rfl,_⟩:=hp.form;refine(J3 b s ao cap t w hr).mono ?_;rw[hx];exact fun e w' h=>h
theorem cO.drop {w:World} {T:Nat} {us vs:List Nu.Tok} (h:cO w T 0 (us++vs)) (k:Nat):cO w T (k*4) (us.drop k):=fun j t hj=>by
 rw[List.getElem?_drop] at hj;have hlt:=(aah.1 hj).1;have:=h (k+j) t (by rw[aaH hlt];exact hj);rwa[show 0+(k+j)*4=k*4+j*4 by omega] at this
theorem aM.low {w:World} {B k:Nat} {v:Value} {ps:List (Int×Int)} (h:aM w B v ps) (hk:k<B) (i:Nat) (a:Value):aM (w.setCell ⟨k,i,none⟩ a) B v ps:=by
 refine⟨h.1,?_⟩;rcases h.2 with h|⟨g,cap,cur,e,hgB,hh,hr⟩
 .exact .inl h
 .exact .inr ⟨g,cap,cur,e,hgB,(heap_setCell_other w ⟨k,i,none⟩ g a (by simp;omega)).trans hh,hr⟩
theorem aM.base {w:World} {B A:Nat} {v:Value} {ps:List (Int×Int)} (h:aM w B v ps) (hA:A<=B):aM w A v ps:=by
 refine⟨h.1,?_⟩;rcases h.2 with h|⟨g,cap,cur,e,hgB,hr⟩
 .exact .inl h
 .exact .inr ⟨g,cap,cur,e,by omega,hr⟩
theorem aM.drew {w:World} {B:Nat} {v:Value} {ps:List (Int×Int)} (h:aM w B v ps):aM w.drew B v ps:=h
end
end Go.Proofs.YtdbjpbjocmcpkaaGreatDoor
