import Derived.Deep.RegionLaw
import Derived.Test.YtdbjpbjocmcpkaaGreatDoorMk12
set_option maxHeartbeats 4000000
set_option maxRecDepth 100000
namespace Go.Proofs.YtdbjpbjocmcpkaaGreatDoor
section
open Go.RowKit Go.Sort
theorem Gg (n:Int) (ao:Option Addr) (ca:Nat) (es:List (Int×Int)) (w:World) (he:ah w ao es) (hl:es.length*16<=140737488355328):
 Calls Tryz.prog 11 #[aD n ao es.length ca] w fun e w'=>∃v,e= .returned (.agg #[.int .i64 n,v])/\aL w' w.heap.size v es/\Below w.heap.size w w':=by
 obtain⟨i0,hi,hz0,hz1,hz2⟩:=info_parts Tryz.ox;have HE:=ζ he;clear he;unfold aD;go_enter Tryz.func11,Tryz.ntmps11;go_wp2;go_loopw [3,4] (fun v c wr=>∃(k:Nat) (L:List (Int×Int)),k<=es.length/\c= .int .i64 k/\L=es.take k/\aL wr (w.heap.size+2) v L/\wr.heap[w.heap.size]? =some (.cells #[.int .i64 n,.slice ao es.length ca] 24 (0,0))/\wr.heap[w.heap.size+1]? =some (.cells #[.int .i64 0,.slice none 0 0] 24 (0,0))/\Below w.heap.size w wr) (fun _ c _=>es.length-(intOf c).toNat)
 case atStart=>
  refine⟨0,[],aaL _,rfl,by simp,aL.nil _ _,?_,?_,((aaE _ _).alloc (aaD _) _).alloc (by simp) _⟩
  .rw[aaO _ _ _ (by simp)]
   exact heap_alloc_new w _
  .have:=heap_alloc_new (w.alloc (.cells #[.int .i64 n,.slice ao es.length ca] 24)) (.cells #[.int .i64 0,.slice none 0 0] 24)
   simpa using this
 case round=>
  obtain⟨k,L,hk,rfl,hL,hrow,hg1,hg2,hb⟩:=hrel;obtain⟨a0,a1,-⟩:=af hg1;obtain⟨b0,b1,bf⟩:=af hg2;have hs1:=lt_of_block hg1;have hs2:=lt_of_block hg2;have qc:L.length=k:=by rw[hL];simp;omega
  have gu:=ζ hg1;have dF:=ζ hg2;have HL:=ζ hL;have bM:=ζ hrow;have HB:=ζ hb;have jI:=ζ qc;have hs0:w.heap.size<=wr.heap.size:=hb.size;clear hg1 hg2 hL qc;by_cases hlt:k<es.length
  .have aX:(k:Int)<(es.length:Int):=by omega
   have hk0:(0:Int)<=(k:Int):=by omega
   obtain⟨p,hp⟩:∃p,es[k]? =some p:=⟨_,aaC hlt⟩;obtain⟨b,o,rfl,c0,c1⟩:=(HE.out.later hb) k p hp;have hbl:b<wr.heap.size:=block_lt_of_cell c0;have tF:Hid (es.take (k+1)=L++[p]):=by
    show es.take (k+1)=L++[p];rw[HL.out];exact Si.e9 hp
   clear hp hb hrow;go_wp2_with (at_builtin;refine wpList_append_own _ rfl _ _ 22 rfl (w.heap.size+2) 66 i0 (.agg #[.int .i64 0,.int .i64 0]) 2 16 Tryz.underlying22 hi hz0 hz1 hz2 rfl (by decide) _ _ _ rfl (abe bM.out _) ⟨wr.heap.size,0,none⟩ 1 1 [.int .i64 p.1,.int .i64 p.2] rfl rfl (fj _ _ rfl _ _ _) (by simp[Value.oneCell']) (by rw[jI.out];unfold maxLen;omega) (by rw[jI.out];omega) (by simp;omega) ?_;refine aaH ?_);refine ζ ?_;intro v' w3 hrow3 hg3 _;have mq:Hid (aL w3 (w.heap.size+2) v' (L++[p])):=by
    unfold aL;rw[cK,aaN];exact hrow3
   have Xb:=ζ ((hg3.block _ (by simp;omega) (fun h=>bM.out.far (by omega) h.symm)).trans ((aaO _ _ _ hs1).trans gu.out));have Xa:=ζ ((hg3.block _ (by simp;omega) (fun h=>bM.out.far (by omega) h.symm)).trans ((aaO _ _ _ hs2).trans dF.out));have aK:=ζ ((HB.out.alloc hs0 _).grown hg3 (by simp;omega) (fun j hj=>by have:=(aaJ bM.out j hj).1;omega));clear hrow3 hg3;go_wp2;go_roundw
   case rel=>exact⟨k+1,_,by omega,by go_num,tF.out.symm,mq.out,Xb.out,Xa.out,aK.out⟩
   case measure=>simp[intOf];omega
  .have hd:¬((k:Int)<(es.length:Int)):=by omega
   have rE:L=es:=by
    rw[HL.out];exact aa3 (by omega)
   have jC:=ζ rE;clear rE hb hrow;obtain⟨zR,cap',rfl,_,_,_,hx⟩:=bM.out.form;have HX:=ζ hx;clear hx;go_wp2;have hgr:=bS dF.out (.int .i64 n) (.slice zR L.length cap');obtain⟨r0,r1,-⟩:=af hgr;refine bodyPost_ret (v:= .agg #[.int .i64 n,.slice zR L.length cap']) (by simp[results,Tryz.results11,go_sem,r0,r1]) rfl ?_;refine⟨_,rfl,?_,(HB.out.setCell (by simp) _).setCell (by simp) _⟩;rw[<-jC.out];exact bM.out.TZ (by omega) _ _
end
section
open Go.RowKit
theorem Tryz.D6:(Tryz.prog.info? 57).map (fun i=>(i.zero,i.size,i.bytes))=some (some (.agg #[.int .i64 0,.int .i64 0]),2,16):=by kernel_rfl
def cU (w:World) (B:Nat) (v:Value) (es:List (Int×Int)):Prop:=w.ownsRow B 57 2 v es.length (dD es)
theorem cU.form {w:World} {B:Nat} {v:Value} {es:List (Int×Int)} (h:cU w B v es):∃ao cap,v= .slice ao es.length cap/\es.length<=cap/\cap<=maxLen/\ah w ao es/\(∀x,ao=some x->B<=x.block/\x.block<w.heap.size):=by
 have h':=h;unfold cU at h';rcases h.2 with ⟨rfl,h0⟩|⟨g,cap,cur,rfl,hg,hh,hc,hm,_⟩
 .refine⟨none,0,by rw[h0],by omega,aaL _,fun j p hj=> ?_,fun x h=>by cases h⟩
  rw[abo.1 h0] at hj;simp at hj
 .refine⟨_,cap,rfl,hc,hm,fun j p hj=>⟨g,0,rfl,?_⟩,fun x h=>by cases h;exact⟨hg,lt_of_block hh⟩⟩
  have hcl:=abP h' (g:=g) rfl;simp only[Ib] at hcl;obtain⟨h0,h1⟩:=iM es j p hj;rw[aa7];exact⟨hcl _ _ h0,hcl _ _ h1⟩
theorem cU.far {w:World} {B b:Nat} {v:Value} {ps:List (Int×Int)} (h:cU w B v ps) (hb:b<B):v.ownBlock≠Option.some b:=by
 obtain⟨ao,cap,rfl,_,_,_,hx⟩:=h.form;cases ao with
 |none=>simp[Value.ownBlock]
 |some x=>have:=hx x rfl;simp[Value.ownBlock];omega
theorem cU.lower {w:World} {B A:Nat} {v:Value} {ps:List (Int×Int)} (h:cU w B v ps) (hA:A<=B):cU w A v ps:=by
 refine⟨h.1,?_⟩;rcases h.2 with h|⟨g,cap,cur,e,hgB,hh,hr⟩
 .exact .inl h
 .exact .inr ⟨g,cap,cur,e,by omega,hh,hr⟩
theorem cU.nil (w:World) (B:Nat):cU w B (.slice none 0 0) []:=abX _ _ _ _
end
section
open Go.RowKit
def uR (es:List (Int×Int)) (w:World) (e:Ending) (w':World):Prop:=
 ∃v,e= .returned v/\cU w' w.heap.size v es/\Below w.heap.size w w'
theorem Dg (n:Int) (ao:Option Addr) (ca:Nat) (es:List (Int×Int)) (w:World) (he:ah w ao es) (hl:es.length*16<=140737488355328):
 Calls Tryz.prog 26 #[aD n ao es.length ca] w (uR es w):=by
 obtain⟨i0,hi,hz0,hz1,hz2⟩:=info_parts Tryz.D6;have HE:=ζ he;clear he;unfold aD;go_enter Tryz.func26,Tryz.ntmps26;go_wp2;go_loopw [3,4] (fun v c wr=>∃(k:Nat) (L:List (Int×Int)),k<=es.length/\c= .int .i64 k/\L=es.take k/\cU wr (w.heap.size+1) v L/\wr.heap[w.heap.size]? =some (.cells #[.int .i64 n,.slice ao es.length ca] 24 (0,0))/\Below w.heap.size w wr) (fun _ c _=>es.length-(intOf c).toNat)
 case atStart=>exact⟨0,[],aaL _,rfl,by simp,cU.nil _ _,heap_alloc_new w _,(aaE _ _).alloc (aaD _) _⟩
 case round=>
  obtain⟨k,L,hk,rfl,hL,hrow,hg1,hb⟩:=hrel;obtain⟨a0,a1,-⟩:=af hg1;have hs1:=lt_of_block hg1;have qc:L.length=k:=by rw[hL];simp;omega
  have gu:=ζ hg1;have HL:=ζ hL;have bM:=ζ hrow;have HB:=ζ hb;have jI:=ζ qc;have hs0:w.heap.size<=wr.heap.size:=hb.size;clear hg1 hL qc;by_cases hlt:k<es.length
  .have aX:(k:Int)<(es.length:Int):=by omega
   have hk0:(0:Int)<=(k:Int):=by omega
   obtain⟨p,hp⟩:∃p,es[k]? =some p:=⟨_,aaC hlt⟩;obtain⟨b,o,rfl,c0,c1⟩:=(HE.out.later hb) k p hp;have hbl:b<wr.heap.size:=block_lt_of_cell c0;have tF:Hid (es.take (k+1)=L++[p]):=by
    show es.take (k+1)=L++[p];rw[HL.out];exact Si.e9 hp
   clear hp hb hrow;go_wp2_with fail
   go_region_law
    (refine step_append_lies _ (by rfl) _ _ _ (by rfl) (w.heap.size+1) 57 i0 _ 2 16 Tryz.underlying59 hi hz0 hz1 hz2 rfl (by omega) _ L.length (dD L) (by rfl) ((abe bM.out _).drew)
      ⟨wr.heap.size,0,none⟩ 1 1 [.int .i64 p.1,.int .i64 p.2] (by rfl) (by rfl) (ab7 (cs:= #[.int .i64 p.1,.int .i64 p.2]) (t:=57) (fr:=(0,0)) (heap_alloc_new wr _)) (by simp[Value.oneCell'])
      (by omega) (by rw[jI.out];unfold maxLen;omega) (by rw[jI.out];omega) (by simp;omega) (wr.heap.size+1) (by simp) ?_;intro gg nD w3 hrow3 hg3 hat hlt3)
   all_goals go_wp2
   all_goals
    first
     |(go_roundw
       case rel=>
        refine⟨k+1,_,by omega,by go_num,tF.out.symm,?_,(hg3.block _ (by simp;omega) (fun h=>bM.out.far (by omega) h.symm)).trans ((aaO _ _ _ hs1).trans gu.out),(HB.out.alloc hs0 _).drew.grown hg3 (by simp;omega) (fun j hj=>by have:=(aaJ bM.out j hj).1;omega)⟩;unfold cU;rw[cK,aaN];exact hrow3
       case measure=>simp[intOf];omega)
  .have hd:¬((k:Int)<(es.length:Int)):=by omega
   have rE:L=es:=by
    rw[HL.out];exact aa3 (by omega)
   have jC:=ζ rE;clear rE hb hrow;go_wp2;go_ret;refine⟨_,rfl,?_,HB.out⟩;rw[<-jC.out];exact bM.out.lower (by omega)
end
section
open Go.RowKit Go.Sort
theorem CW {U:World} {o:Oper} {a:Act} {K:Act->World->Prop} {Q:Exit->Act->World->Prop} (s x:Operand) (ho:o.op= .call { callee:= .builtin .append,args:= #[s,x],argTypes:= #[59,59] })
 (B:Nat) (v:Value) (l:List (Int×Int)) (y z:Int) (hR:cU U B v l) (hB:B<=U.heap.size) (hs:a.eval s=v) (g:Nat) (hx:a.eval x= .slice (some ⟨g,0,none⟩) 1 1) (hg:U.heap[g]? =some (.cells #[.int .i64 y,.int .i64 z] 57 (0,0))) (hl:l.length<=8796093022000)
 (h:∀v' w',cU w' B v' (l++[(y,z)])->Below B U w'->K (a.put o.dst v') w'):o.wp Tryz.prog a U K Q:=by
 obtain⟨i0,hi,hz0,hz1,hz2⟩:=info_parts Tryz.D6;refine wp_append_own _ s x 59 ho B 57 i0 (.agg #[.int .i64 0,.int .i64 0]) 2 16 Tryz.underlying59 hi hz0 hz1 hz2 rfl (by decide) v l.length (dD l) hs hR ⟨g,0,none⟩ 1 1 [.int .i64 y,.int .i64 z] hx rfl (ab7 hg) (by simp[Value.oneCell']) (by unfold maxLen;omega) (by omega) hB ?_;intro v' w' h2 h3 _;refine h v' w' ?_ ((aaE U.heap.size U).mono hB |>.grown h3 hB (fun b hb=>(aaJ hR b hb).1));unfold cU;rw[cK,aaN];exact h2
end
section
open Go.Proofs.Tryz
open Go.ChangeShapes Go.WideShapes Go.ChangeAt Go.RowKit
theorem Hy:prog.bytesOf 66=16:=by kernel_rfl
theorem uL:prog.cellsOf 22=1:=by kernel_rfl
section
variable {H:Type} {enc:TypeId×Value->H} {W:World} {base:Nat} {sp:Nat->Bool} {held:Bool}
def nH (cs:List Value):Prop:=∃a b:Int,cs=[.int .i64 a,.int .i64 b]/\dI (a,b)
theorem qG {fuel:Nat} {cs:List Value} {x y:DataW H×List MemPlace} (hl:cs.length=2) (h0:DataW.trod enc prog W base sp held fuel 3 ((cs.drop 0).take 1)=some x) (h1:DataW.trod enc prog W base sp held fuel 3 ((cs.drop 1).take 1)=some y):nH cs:=by
 match cs,hl with
 |[u,v],_=>
  obtain⟨a,e0,_,w0⟩:=DataW.trod_int Tryz.underlying3 h0;obtain⟨b,e1,_,w1⟩:=DataW.trod_int Tryz.underlying3 h1;simp at e0 e1;subst e0;subst e1;exact⟨a,b,rfl,bounds_i64 w0,bounds_i64 w1⟩
theorem LC {e t:TypeId} (he:prog.underlying e=some (.array 2 t)) (ce:prog.cellsOf e=2) (ht:t=3) {fuel:Nat} {cs:List Value} {x:DataW H×List MemPlace} (h:DataW.trod enc prog W base sp held fuel e cs=some x):nH cs:=by
 subst ht;obtain⟨xs,m,_,_,hl,hx,hf⟩:=DataW.trod_array he h;rw[ce] at hl
 match xs,hx with
 |[y0,y1],_=>
  have g0:=hf 0 (by omega);have g1:=hf 1 (by omega);simp only[l7] at g0 g1;exact qG hl g0 g1
theorem C3 {e:TypeId} {f0 f1:Field} (he:prog.underlying e=some (.struct #[f0,f1])) (ce:prog.cellsOf e=2) (o0:f0.offset=0) (o1:f1.offset=1) (t0:f0.type=3) (t1:f1.type=3)
 {fuel:Nat} {cs:List Value} {x:DataW H×List MemPlace} (h:DataW.trod enc prog W base sp held fuel e cs=some x):nH cs:=by
 obtain⟨xs,m,_,_,hl,hx,hf⟩:=acX he h;rw[ce] at hl
 match xs,hx with
 |[y0,y1],_=>
  have g0:=hf 0 f0 rfl;have g1:=hf 1 f1 rfl;simp only[o0,o1,t0,t1,l7] at g0 g1;exact qG hl g0 g1
theorem Ab {fuel:Nat} {cs:List Value} {x:DataW H×List MemPlace} (h:DataW.trod enc prog W base sp held fuel 66 cs=some x):nH cs:=C3 Tryz.underlying66 qq rfl rfl rfl rfl h
structure yL (w:World) (ao:Option Addr) (len cap:Nat) (qs:List (Int×Int)):Prop where
 hlen:qs.length=len
 hat:ah w ao qs
 hnil:ao=none->qs=[]/\cap=0
 hwf:∀(j:Nat) (p:Int×Int),qs[j]? =some p->dI p
 hfit:len<=cap
theorem Av {t e:TypeId} {fuel:Nat} {a:Option Addr} {len cap:Nat} {x:DataW H×List MemPlace} (ht:prog.underlying t=some (.slice e)) (ce:prog.cellsOf e=2)
 (hel:∀(n:Nat) (cs:List Value) (y:DataW H×List MemPlace),DataW.trod enc prog W base (fun _=>true) held n e cs=some y->nH cs) (h:DataW.trod enc prog W base (fun _=>true) held fuel t [.slice a len cap]=some x):
 ∃qs,yL W a len cap qs/\((x.1= .nil/\qs=[])\/∃es rest,x.1= .slice es rest/\len<=es.length):=by
 rcases ada ht h with ⟨hcs,hx⟩|⟨ad,l,c,m,n,D,Pl,hcs,_,hl,hm,hmm,rfl,hcell⟩
 .simp at hcs
  obtain⟨rfl,rfl,rfl⟩:=hcs;subst hx;exact⟨[],⟨rfl,ah.nil _ _,fun _=>⟨rfl,rfl⟩,fun j p hj=>by simp at hj,aaD _⟩,.inl ⟨rfl,rfl⟩⟩
 .simp at hcs
  obtain⟨rfl,rfl,rfl⟩:=hcs;have hmc:m=cap:=by simpa using hmm
  have each:∀i,i<m->∃q:Int×Int,W.cell? (ad.add (i*2))=some (.int .i64 q.1)/\W.cell? (ad.add (i*2+1))=some (.int .i64 q.2)/\dI q:=fun i hi=>by
   obtain⟨cs',h1,h2⟩:=hcell i hi;rw[ce] at h1;obtain⟨_,hlen,hc⟩:=World.cells?_some h1;obtain⟨u,v,rfl,hw⟩:=hel n cs' _ h2;have e0:=hc 0 (by omega);have e1:=hc 1 (by omega);rw[Deep.add_add] at e0 e1;exact⟨(u,v),by simpa using e0,by simpa using e1,hw⟩
  obtain⟨q,hq⟩:=Deep.choose_lt each;refine⟨(List.range len).map q,⟨by simp,fun j p hj=> ?_,fun h=>(by cases h),fun j p hj=> ?_,hl⟩,.inr ⟨_,_,rfl,by simp⟩⟩
  .have hi:j<len:=by
    have:=(aaF.1 hj).1;simpa using this
   simp[hi] at hj;subst hj;obtain⟨c0,c1,_⟩:=hq j (by omega);obtain⟨b,o,s⟩:=ad;have hsp:s=none:=by
    obtain⟨YS,_⟩:=hq 0 (by omega);simpa[Addr.add] using ac7 YS
   subst hsp;have ea:∀k,((⟨b,o,none⟩:Addr).add k)=⟨b,o+k,none⟩:=fun k=>by
    by_cases h0:k=0<;>simp[Addr.add,h0]
   rw[ea] at c0 c1;exact⟨b,o,rfl,c0,by rw[<-acq] at c1;exact c1⟩
  .have hi:j<len:=by
    have:=(aaF.1 hj).1;simpa using this
   simp[hi] at hj;subst hj;exact(hq j (by omega)).2.2
end
end
section
open Go.Proofs.Tryz
open Go.ChangeShapes Go.WideShapes Go.ChangeAt Go.RowKit
theorem Fh:prog.cellsOf 24=2:=by kernel_rfl
section
variable {H:Type} {enc:TypeId×Value->H} {W:World} {base:Nat} {sp:Nat->Bool} {held:Bool}
theorem Ka {e:TypeId} {f0 f1:Field} (he:prog.underlying e=some (.struct #[f0,f1])) (o0:f0.offset=0) (o1:f1.offset=1) (t0:f0.type=3) (t1:f1.type=22) (c1:prog.cellsOf 22=1)
 {fuel:Nat} {u v:Value} {x:DataW H×List MemPlace} (h:DataW.trod enc prog W base sp held fuel e [u,v]=some x):
 ∃(m:Nat) (y0 y1:DataW H×List MemPlace),DataW.trod enc prog W base sp held m 3 [u]=some y0/\DataW.trod enc prog W base sp held m 22 [v]=some y1/\x.1= .agg [y0.1,y1.1]:=by
 obtain⟨xs,m,_,uZ,hl,hx,hf⟩:=acX he h
 match xs,hx with
 |[y0,y1],_=>
  have g0:=hf 0 f0 rfl;have g1:=hf 1 f1 rfl;simp only[o0,o1,t0,t1,l7,c1] at g0 g1;exact⟨m,y0,y1,by simpa using g0,by simpa using g1,by rw[uZ];rfl⟩
end
theorem yh {H:Type} {enc:TypeId×Value->H} {W:World} {base:Nat} {v:Value} {d:DataW H} {p:List MemPlace} {ts:List TypeId} {ds:List (DataW H)} {j:Nat} (hval:Value.okWide prog W .any base 24 v)
 (h:DataW.Trod enc prog W 0 (fun _=>true) true 24 v d p) (hsz:(DataW.weightsEach prog ts ds).all (·<=reachBytes)=true) (hts:ts[j]? =some 24) (hds:ds[j]? =some d):
 ∃(n:Int) (a:Option Addr) (cap:Nat) (qs:List (Int×Int)),v= .agg #[.int .i64 n,.slice a qs.length cap]/\(-9223372036854775808<=n/\n<=9223372036854775807)/\yL W a qs.length cap qs/\qs.length*16<=140737488351232:=by
 obtain⟨cs,rfl,hcs⟩:=okWide_struct Tryz.underlying24 hval;rw[Fh] at hcs;obtain⟨fuel,hf⟩:=h;obtain⟨cl⟩:=cs
 match cl,hcs with
 |[u,v],_=>
  obtain⟨m,y0,y1,g0,g1,uZ⟩:=Ka Tryz.underlying24 rfl rfl rfl rfl uL hf;obtain⟨n,e0,hy0,w0⟩:=DataW.trod_int Tryz.underlying3 g0;simp at e0;subst e0;have RM:∃a len cap,v= .slice a len cap:=by
   rcases ada Tryz.underlying22 g1 with ⟨hc,_⟩|⟨ad,l,c,_,_,_,_,hc,_⟩
   .simp at hc;exact⟨_,_,_,hc⟩
   .simp at hc;exact⟨_,_,_,hc⟩
  obtain⟨a,len,cap,rfl⟩:=RM;obtain⟨qs,hq,hd⟩:=Av Tryz.underlying22 qq (fun n cs y hy=>Ab hy) g1;have zE:=hq.hlen;subst zE;refine⟨n,a,cap,qs,rfl,bounds_i64 w0,hq,?_⟩;rcases hd with ⟨_,rfl⟩|⟨es,rest,hd,hle⟩
  .simp
  .have Yu:d= .agg [y0.1,.slice es rest]:=by
    rw[hd] at uZ;exact uZ
   subst Yu;have hw:=aaV.1 hsz _ (DataW.weights_mem_each hts hds ((es.length+rest.length)*prog.bytesOf 66) (by simp[DataW.weights,DataW.weightsEach,Tryz.underlying24,Tryz.underlying22]));rw[Hy] at hw;have hw2:(es.length+rest.length)*16<=reachBytes:=of_decide_eq_true hw;simp only[reachBytes] at hw2;omega
end
section
open Go.RowKit
theorem Gb (ty:TypeId) (W:World) (b:Nat) (ao:Option Addr) (n ca:Nat) (l:List Int) (hb:W.heap[b]? =some (.cells #[] 3 (0,0))) (hr:tC W ao n ca l) (hn:n<=17592186043904):
 ∃g c w',(Builtin.append_ #[55,55] ty #[.slice (some ⟨b,0,none⟩) 0 0,.slice ao n ca]).run Tryz.prog W= .ok (.slice (some ⟨g,0,none⟩) n c) w'/\(g=b\/W.heap.size<=g)/\(∀B,B<=b->av w' B (.slice (some ⟨g,0,none⟩) n c) l)/\g<w'.heap.size/\Below W.heap.size W w':=by
 obtain⟨i0,hi,hz0,hz1,hz2⟩:=info_parts Tryz.ck;have hlt:=lt_of_block hb;have lN:∀B,B<=b->W.ownsRow B 3 1 (.slice (some ⟨b,0,none⟩) 0 0) 0 []:=fun B hB=>⟨rfl,.inr ⟨b,0,#[],rfl,hB,hb,aaD _,by unfold maxLen;omega,rfl,rfl⟩⟩
 by_cases h0:n=0
 .subst h0
  have hl:l=[]:=abo.1 hr.len;subst hl;refine⟨b,0,W,?_,.inl rfl,fun B hB=>lN B hB,hlt,aaE _ _⟩;cases ao with
  |none=>
   obtain⟨_,rfl⟩:=hr.none rfl;exact run_append_owned_none (P:=Tryz.prog) (w:=W) b 55 ty 3 i0 1 Tryz.underlying55 hi _ 0 [] (lN b (aaD _))
  |some y=>
   have:=run_append_room_cells (P:=Tryz.prog) W 55 ty 3 i0 Tryz.underlying55 hi b 0 0 0 y 0 ca [] (by simp) (fun j u hj=>by simp at hj) (fun u hu=>by simp at hu) (aaD _) (fun j hj=>by simp at hj) (fun j hj=>by simp at hj);rw[this];simp[World.setCells]
 .obtain⟨y,hy⟩:∃y,ao=some y:=by
   cases ao with
   |none=>exact absurd (hr.none rfl).1 h0
   |some y=>exact⟨y,rfl⟩
  subst hy;obtain⟨v',w',hrun,r1,r2⟩:=run_append_arg_grows (P:=Tryz.prog) W 55 ty 3 i0 (.int .i64 0) 1 8 Tryz.underlying55 hi hz0 hz1 hz2 rfl (by decide) ⟨b,0,none⟩ 0 0 [] rfl (fun j u hj=>by simp at hj) y n ca (l.map (Value.int .i64)) (by rw[aaP,hr.len];omega) (fun j u hj=>by
   rw[aaY] at hj;cases xN:l[j]? with
   |none=>rw[xN] at hj;cases hj
   |some z=>
    rw[xN] at hj;obtain rfl:=aaQ hj;obtain⟨b',o',e,hc⟩:=hr.ints j z xN;cases e;have ea:((⟨b',o',none⟩:Addr).add j)=⟨b',o'+j,none⟩:=by
     by_cases h0:j=0<;>simp[Addr.add,h0]
    rw[ea];exact hc) (by omega) (by unfold maxLen;omega) (by omega)
  rw[aa7,abA] at r1;obtain⟨k,hk⟩:∃k,n=k+1:=⟨n-1,by omega⟩;rw[hk] at r1;obtain⟨g,c,rfl⟩:=sx r1;rw[<-hk] at r1 hrun;have hg:=aaJ r1 g rfl;refine⟨g,c,w',hrun,.inr hg.1,fun B hB=> ?_,hg.2,⟨r2.os,r2.tape,r2.output,r2.size,fun k hk=>r2.block k hk (by simp)⟩⟩;have:av w' W.heap.size (.slice (some ⟨g,0,none⟩) n c) l:=by
   unfold av;rw[hr.len];exact r1
  exact this.lower (by omega)
end
section
open Go.RowKit
theorem E1 {W:World} {y:Addr} {es:List (Int×Int)} (he:ah W (some y) es):∀j u,(dD es)[j]? =some u->W.cell? (y.add j)=some u:=by
 intro j u hj;have hjl:=(aaF.1 hj).1;rw[j7] at hjl;obtain⟨p,hp⟩:∃p,es[j/2]? =some p:=⟨_,aaC (by omega)⟩;obtain⟨b,o,e,c0,c1⟩:=he (j/2) p hp;cases e;obtain⟨f0,f1⟩:=iM es (j/2) p hp;have ea:((⟨b,o,none⟩:Addr).add j)=⟨b,o+j,none⟩:=by
  by_cases h0:j=0<;>simp[Addr.add,h0]
 rw[ea];by_cases hm:j%2=0
 .have e:j/2*2=j:=by omega
  rw[e] at f0 c0;rw[f0] at hj;cases hj;exact c0
 .have e:j/2*2+1=j:=by omega
  rw[e] at f1;have e3:o+j/2*2+1=o+j:=by omega
  rw[e3] at c1;rw[f1] at hj;cases hj;exact c1
end
section
open Go.RowKit
theorem Gc (ty:TypeId) (W:World) (b:Nat) (ao:Option Addr) (n ca:Nat) (es:List (Int×Int)) (hb:W.heap[b]? =some (.cells #[] 66 (0,0))) (he:ah W ao es) (hl:es.length=n) (h0:ao=none->ca=0) (hn:n<=8796093022000):
 ∃g c w',(Builtin.append_ #[22,22] ty #[.slice (some ⟨b,0,none⟩) 0 0,.slice ao n ca]).run Tryz.prog W= .ok (.slice (some ⟨g,0,none⟩) n c) w'/\(g=b\/W.heap.size<=g)/\(∀B,B<=b->aL w' B (.slice (some ⟨g,0,none⟩) n c) es)/\g<w'.heap.size/\Below W.heap.size W w':=by
 obtain⟨i0,hi,hz0,hz1,hz2⟩:=info_parts Tryz.ox;have hlt:=lt_of_block hb;have lN:∀B,B<=b->W.ownsRow B 66 2 (.slice (some ⟨b,0,none⟩) 0 0) 0 []:=fun B hB=>⟨rfl,.inr ⟨b,0,#[],rfl,hB,hb,aaD _,by unfold maxLen;omega,rfl,rfl⟩⟩
 by_cases hn0:n=0
 .subst hn0
  have hl:es=[]:=abo.1 hl;subst hl;refine⟨b,0,W,?_,.inl rfl,fun B hB=>lN B hB,hlt,aaE _ _⟩;cases ao with
  |none=>
   obtain rfl:=h0 rfl;exact run_append_owned_none (P:=Tryz.prog) (w:=W) b 22 ty 66 i0 2 Tryz.underlying22 hi _ 0 [] (lN b (aaD _))
  |some y=>
   have:=run_append_room_cells (P:=Tryz.prog) W 22 ty 66 i0 Tryz.underlying22 hi b 0 0 0 y 0 ca [] (by simp) (fun j u hj=>by simp at hj) (fun u hu=>by simp at hu) (aaD _) (fun j hj=>by simp at hj) (fun j hj=>by simp at hj);rw[this];simp[World.setCells]
 .obtain⟨y,hy⟩:∃y,ao=some y:=by
   cases ao with
   |none=>
    have hp:es[0]? =some es[0]:=aaC (by omega);obtain⟨_,_,e,-⟩:=he 0 _ hp;cases e
   |some y=>exact⟨y,rfl⟩
  subst hy;obtain⟨v',w',hrun,r1,r2⟩:=run_append_arg_grows (P:=Tryz.prog) W 22 ty 66 i0 (.agg #[.int .i64 0,.int .i64 0]) 2 16 Tryz.underlying22 hi hz0 hz1 hz2 rfl (by decide) ⟨b,0,none⟩ 0 0 [] rfl (fun j u hj=>by simp at hj) y n ca (dD es) (by rw[j7,hl]) (E1 he) (by omega) (by unfold maxLen;omega) (by omega);rw[aa7,abA] at r1;obtain⟨k,hk⟩:∃k,n=k+1:=⟨n-1,by omega⟩;rw[hk] at r1;obtain⟨g,c,rfl⟩:=sx r1;rw[<-hk] at r1 hrun;have hg:=aaJ r1 g rfl;refine⟨g,c,w',hrun,.inr hg.1,fun B hB=> ?_,hg.2,⟨r2.os,r2.tape,r2.output,r2.size,fun k hk=>r2.block k hk (by simp)⟩⟩;have:aL w' W.heap.size (.slice (some ⟨g,0,none⟩) n c) es:=by
   unfold aL;rw[hl];exact r1
  exact this.lower (by omega)
end
section
open Go.RowKit
namespace aI
theorem V2 {P:Program} {ops:Array Oper} {Q:Exit->Act->World->Prop} {a0:Act} {w0:World} (C:(Nat->Bool)->(Nat->Value)->World->Prop) (N:Nat) (hN:a0.tmps.size=N) (hsh:shape ops ops.size (fun _=>[])=true)
 (EE:∀ ρ,C (fun _=>false) ρ w0)
 (hstep:∀i o (L:Nat->Bool) (ρ:Nat->Value) w (ev:Operand->Value),ops[i]? =some o->L i=false->C L ρ w->(∀e∈o.after,Region.binds .any e=true->L e.on=true)->(∀j o',ops[j]? =some o'->L j=true->∀e∈o'.after,Region.binds .any e=true->L e.on=true)->
   (∀j t,j<i->dst ops j=some t->t<N->ev (.tmp t)=ρ j)->(∀t,((List.range i).all fun j=>dst ops j != some t)=true->ev (.tmp t)=a0.eval (.tmp t))->(∀v,ev (.const v)=v)->(∀f,ev (.func f)= .func (.func f) #[] #[])->
   cX P o ev w fun v w'=>C (bB L i) (upd ρ i v) w')
 (hend:∀L ρ w,(∀i,i<ops.size->L i=true)->C L ρ w->Q .normal (canon ops a0 ρ ops.size) w):
 wpAny P .any ops Q ops.size (Array.replicate ops.size false) a0 w0:=by
 have hs:=fun i (hi:i<ops.size)=>aaV.1 hsh i (aaX.2 hi)
 have hlt:∀{j t},dst ops j=some t->j<ops.size:=fun {j t} h=>by
  rcases abk j ops.size with h1|h1
  .exact h1
  .unfold dst at h;rw[ab0 h1] at h;cases h
 have hone:∀i j t,i≠j->dst ops j=some t->dst ops i≠some t:=fun i j t hij hj hi=>by
  have h1:=hs j (hlt hj);dsimp only at h1;cases ho:ops[j]? with
  |none=>rw[ho] at h1;cases h1
  |some o=>
   have hd:o.dst=some t:=by unfold dst at hj;rw[ho] at hj;exact hj
   rw[ho] at h1;simp only[aaZ] at h1;have h2:=h1.1;rw[hd] at h2;have h3:=aaV.1 h2 i (aaX.2 (hlt hi));simp only[abw,beq_iff_eq,bne_iff_ne] at h3;rcases h3 with h3|h3
   .exact hij h3
   .exact h3 hi
 have hop:∀i,i<ops.size->∃o,ops[i]? =some o/\o.guard=none/\(∀cs b,o.op≠.select cs b)/\
  (∀t,Operand.tmp t∈o.op.operands->∀j,j<ops.size->dst ops j=some t->j<i/\∃e∈o.after,Region.binds .any e=true/\e.on=j)/\(∀e∈o.after,Region.binds .any e=true->e.on<i):=fun i hi=>by
  have h1:=hs i hi;dsimp only at h1;cases ho:ops[i]? with
  |none=>rw[ho] at h1;cases h1
  |some o=>
   rw[ho] at h1;simp only[aaZ,if_pos hi] at h1;obtain⟨_,⟨⟨⟨g1,g2⟩,g4⟩,_⟩,g6⟩:=h1;refine⟨o,rfl,by simpa using g1,(fun cs b hsel=>by rw[hsel] at g2;cases g2),fun t ht j hj hd=> ?_,fun e he hb=> ?_⟩
   .have h2:=aaV.1 g4 (.tmp t) (by simpa using ht)
    dsimp only at h2;have h3:=aaV.1 h2 j (aaX.2 hj);simp only[abw,bne_iff_ne,aaZ,decide_eq_true_eq,abx,beq_iff_eq] at h3;rcases h3 with h3|⟨h3,e,he,h4⟩
    .exact absurd hd h3
    .exact⟨h3,e,by simpa using he,h4⟩
   .have h2:=abT.1 g6 e he
    rw[hb] at h2;simpa using h2
 have fin:∀(listed:Array Bool),listed.size=ops.size->Region.ready .any ops listed=[]->∀i,i<ops.size->listed.getD i false=true:=by
  intro listed hl hr i
  induction i using Nat.strongRecOn with
  |_ i ih=>
   intro hi;by_cases hb:listed.getD i false=true
   .exact hb
   .exfalso
    have hi':i<listed.size:=by omega
    have h0:listed.getD i true=false:=by
     simp[hi'] at hb ⊢;exact hb
    obtain⟨o,ho,_,_,_,dw⟩:=hop i hi;have hm:i∈Region.ready .any ops listed:=by
     rw[mem_ready];refine⟨h0,o,ho,fun e he hbd=> ?_⟩;have:=dw e he hbd;exact ih e.on this (by omega)
    rw[hr] at hm;cases hm
 have key:∀(fuel:Nat) (listed:Array Bool) (ρ:Nat->Value) (w:World),listed.size=ops.size->listed.toList.count false=fuel->C (fun j=>listed.getD j false) ρ w->(∀j o',ops[j]? =some o'->listed.getD j false=true->∀e∈o'.after,Region.binds .any e=true->listed.getD e.on false=true)->
  wpAny P .any ops Q fuel listed (part ops a0 ρ (fun j=>listed.getD j false) ops.size) w:=by
  intro fuel
  induction fuel with
  |zero=>
   intro listed ρ w hl hc hC hdc;have hall:∀i,i<ops.size->listed.getD i false=true:=fun i hi=>by
    have hm:¬false∈listed.toList:=fun h=>by
     have:=abJ.2 h;omega
    have hi':i<listed.size:=by omega
    by_cases sX:listed[i]=true
    .simp[hi',sX]
    .exfalso
     have e:listed[i]=false:=by simpa using sX
     exact hm (by rw[<-e];simp)
   refine⟨?_,by rw[kM hall];exact hend _ _ _ hall hC⟩;refine acP.2 fun i hi=> ?_
   rw[mem_ready] at hi;obtain⟨h0,o,ho,_⟩:=hi;have h1:=hall i (aa2.1 ho).1;have hi':i<listed.size:=by have:=(aa2.1 ho).1;omega
   simp[hi'] at h0 h1;rw[h0] at h1;cases h1
  |succ fuel ih=>
   intro listed ρ w hl hc hC hdc;refine⟨fun hr=>by rw[kM (fin listed hl hr)];exact hend _ _ _ (fin listed hl hr) hC,fun i hi=> ?_⟩;rw[mem_ready] at hi;obtain⟨h0,o,ho,cA⟩:=hi;have hin:=(aa2.1 ho).1;have hi':i<listed.size:=by omega
   obtain⟨o',ho',hgd,hsel,hread,_⟩:=hop i hin;rw[ho] at ho';cases ho';have eI:listed.getD i false=false:=by
    simp[hi'] at h0 ⊢;exact h0
   have hev:execOp (part ops a0 ρ (fun j=>listed.getD j false) ops.size).eval o=execOp (canon ops a0 ρ i).eval o:=by
    refine execOp_congr o hsel fun x hx=> ?_
    cases x with
    |tmp t=>
     refine jM (fun i j hij=>hone i j t hij) (by omega) fun j hj hd=> ?_
     obtain⟨h1,e,he,hbd,rfl⟩:=hread t hx j (by omega) hd;exact⟨h1,cA e he hbd⟩
    |_=>rfl
   have ng:=hstep i o (fun j=>listed.getD j false) ρ w (canon ops a0 ρ i).eval ho eI hC cA hdc (fun j t hj hd ht=>by
    rw[bF,gK hd (fun i hi=>hone i j t hi hd) rfl i hj,if_pos (by rw[hN];exact ht)]) (fun t ht=>by
    rw[bF,dy i fun j hj _=>by
     have:=aaV.1 ht j (aaX.2 hj);simpa using this]) (fun v=>rfl) (fun f=>rfl)
   unfold wpOp;rw[ho];dsimp only;have hw:Region.wanted o (yielded ops (part ops a0 ρ (fun j=>listed.getD j false) ops.size).tmps)=true:=by
    unfold Region.wanted;rw[hgd]
   rw[if_pos hw];refine .inl ?_;have pY:cX P o (part ops a0 ρ (fun j=>listed.getD j false) ops.size).eval w fun v w'=>C (bB (fun j=>listed.getD j false) i) (upd ρ i v) w':=by
    unfold cX at ng ⊢;rw[hev];exact ng
   refine pY.wp fun v w' Cf=> ?_
   have xU:o.dst=dst ops i:=by unfold dst;rw[ho];rfl
   have cP:∀j,(listed.setIfInBounds i true).getD j false=if j=i then true else listed.getD j false:=fun j=>by
    by_cases e:j=i
    .subst e
     rw[if_pos rfl];simp[hi']
    .rw[if_neg e]
     exact getD_set_ne false (fun h=>e h.symm)
   rw[xU,n4 hone eI hin,jL (L':=fun j=>(listed.setIfInBounds i true).getD j false) (ρ':=upd ρ i v) (fun j=>(cP j).symm) (fun _ _=>rfl)];refine ih (listed.setIfInBounds i true) (upd ρ i v) w' (by simpa using hl) ?_ ?_ ?_
   .rw[ab4]
    have hi2:i<listed.toList.length:=by simpa using hi'
    have e:listed.toList[i]=false:=by
     simp[hi'] at h0;simpa using h0
    have hpos:0<listed.toList.count false:=abJ.2 (by rw[<-e];exact ab6 hi2);rw[acQ hi2,e,if_pos (by decide),if_neg (by decide)];omega
   .have e:(fun j=>(listed.setIfInBounds i true).getD j false)=bB (fun j=>listed.getD j false) i:=funext fun j=>by rw[cP];rfl
    rw[e];exact Cf
   .intro j o' hj hjl e he gQ
    rw[cP] at hjl ⊢;by_cases e1:e.on=i
    .rw[if_pos e1]
    .rw[if_neg e1]
     by_cases e2:j=i
     .subst e2
      rw[ho] at hj;cases hj;exact cA e he gQ
     .rw[if_neg e2] at hjl
      exact hdc j o' hj hjl e he gQ
 have hnone:∀j,(Array.replicate ops.size false).getD j false=false:=fun j=>by by_cases hk:j<ops.size<;>simp[hk]
 have h0:part ops a0 (fun _=>undef) (fun j=>(Array.replicate ops.size false).getD j false) ops.size=a0:=by
  have:∀k,part ops a0 (fun _=>undef) (fun j=>(Array.replicate ops.size false).getD j false) k=a0:=by
   intro k
   induction k with
   |zero=>rfl
   |succ k ih=>
    unfold part;rw[ih,hnone k,if_neg (by decide)]
  exact this _
 have hk:=key ops.size (Array.replicate ops.size false) (fun _=>undef) w0 (by simp) (by simp) (by rw[show(fun j=>(Array.replicate ops.size false).getD j false)=fun _=>false from funext hnone];exact EE _) (fun j o' _ h=>by rw[hnone j] at h;cases h);rw[h0] at hk;exact hk
end aI
end
section
open Go.RowKit
theorem b8 {w w':World} {b:Nat} {o:Obj} (h:w.heap[b]? =some o) (hb:Below w.heap.size w w'):w'.heap[b]? =some o:=(hb.block b (aa2.1 h).1).trans h
structure ZQ (w:World) (C:Nat) (pl:Bool) (eo:Option Addr) (ce:Nat) (es:List (Int×Int)) (L:Nat->Bool) (ρ:Nat->Value) (W:World) (b:Nat) (a:Option Addr) (c H:Nat) (x y z:Value):Prop where
 low:Below w.heap.size w W
 v0:L 0=true->ρ 0= .pointer (some ⟨C,0,none⟩)
 v1:L 1=true->ρ 1= .bool pl
 v2:L 2=true->ρ 2= .slice (some ⟨b,0,none⟩) 0 0
 e2:L 2=true->L 5=false->w.heap.size<=b/\W.heap[b]? =some (.cells #[] 66 (0,0))
 v3:L 3=true->ρ 3= .pointer (some ⟨C,2,none⟩)
 v4:L 4=true->ρ 4= .slice eo es.length ce
 v5:L 5=true->ρ 5= .slice a es.length c
 e5:L 5=true->aL W w.heap.size (.slice a es.length c) es
 v6:L 6=true->ρ 6= .agg #[.bool pl,.slice none 0 0,.slice a es.length c]
 v7:L 7=true->ρ 7= .pointer (some ⟨H,0,none⟩)
 e7:L 7=true->w.heap.size<=H/\W.heap[H]? =some (.cells #[x,y,z] 27 (0,0))
 f7:L 5=true->L 7=true->(Value.slice a es.length c).ownBlock≠some H
 e8:L 8=true->x= .bool pl/\y= .slice none 0 0/\z= .slice a es.length c
def eE (w:World) (C:Nat) (pl:Bool) (eo:Option Addr) (ce:Nat) (es:List (Int×Int)) (L:Nat->Bool) (ρ:Nat->Value) (W:World):Prop:=∃b a c H x y z,ZQ w C pl eo ce es L ρ W b a c H x y z
section
variable {w:World} {C:Nat} {pl:Bool} {eo:Option Addr} {ce:Nat} {es:List (Int×Int)} {L:Nat->Bool} {ρ:Nat->Value} {W W':World}
open aI
theorem eE.low (h:eE w C pl eo ce es L ρ W):Below w.heap.size w W:=by
 obtain⟨b,a,c,H,x,y,z,S⟩:=h;exact S.low
theorem eE.start (hb:Below w.heap.size w W):eE w C pl eo ce es (fun _=>false) ρ W:=
 ⟨0,none,0,0,undef,undef,undef,hb,nofun,nofun,nofun,nofun,nofun,nofun,nofun,nofun,nofun,nofun,nofun,nofun,nofun⟩
theorem eE.zero (h:eE w C pl eo ce es L ρ W):eE w C pl eo ce es (bB L 0) (upd ρ 0 (.pointer (some ⟨C,0,none⟩))) W:=by
 obtain⟨b,a,c,H,x,y,z,S⟩:=h;exact⟨b,a,c,H,x,y,z,S.low,fun _=>rfl,S.v1,S.v2,S.e2,S.v3,S.v4,S.v5,S.e5,S.v6,S.v7,S.e7,S.f7,S.e8⟩
theorem eE.one (h:eE w C pl eo ce es L ρ W):eE w C pl eo ce es (bB L 1) (upd ρ 1 (.bool pl)) W:=by
 obtain⟨b,a,c,H,x,y,z,S⟩:=h;exact⟨b,a,c,H,x,y,z,S.low,S.v0,fun _=>rfl,S.v2,S.e2,S.v3,S.v4,S.v5,S.e5,S.v6,S.v7,S.e7,S.f7,S.e8⟩
theorem eE.two (h:eE w C pl eo ce es L ρ W):eE w C pl eo ce es (bB L 2) (upd ρ 2 (.slice (some ⟨W.heap.size,0,none⟩) 0 0)) (W.alloc (.cells #[] 66)):=by
 obtain⟨b,a,c,H,x,y,z,S⟩:=h;have hb:Below W.heap.size W (W.alloc (.cells #[] 66)):=(aaE _ _).alloc (aaD _) _;exact⟨W.heap.size,a,c,H,x,y,z,S.low.trans (hb.mono S.low.size),S.v0,S.v1,fun _=>rfl,fun _ _=>⟨S.low.size,heap_alloc_new _ _⟩,S.v3,S.v4,S.v5,fun h=>(S.e5 h).below hb (aaD _),S.v6,S.v7,fun h=>⟨(S.e7 h).1,b8 (S.e7 h).2 hb⟩,S.f7,S.e8⟩
theorem eE.three (h:eE w C pl eo ce es L ρ W):eE w C pl eo ce es (bB L 3) (upd ρ 3 (.pointer (some ⟨C,2,none⟩))) W:=by
 obtain⟨b,a,c,H,x,y,z,S⟩:=h;exact⟨b,a,c,H,x,y,z,S.low,S.v0,S.v1,S.v2,S.e2,fun _=>rfl,S.v4,S.v5,S.e5,S.v6,S.v7,S.e7,S.f7,S.e8⟩
theorem eE.four (h:eE w C pl eo ce es L ρ W):eE w C pl eo ce es (bB L 4) (upd ρ 4 (.slice eo es.length ce)) W:=by
 obtain⟨b,a,c,H,x,y,z,S⟩:=h;exact⟨b,a,c,H,x,y,z,S.low,S.v0,S.v1,S.v2,S.e2,S.v3,fun _=>rfl,S.v5,S.e5,S.v6,S.v7,S.e7,S.f7,S.e8⟩
theorem eE.five (h:eE w C pl eo ce es L ρ W) {b' g' c':Nat} (hb:Below W.heap.size W W') (h2:L 2=true) (h5:L 5=false) (h6:L 6=false) (h8:L 8=false) (hv:ρ 2= .slice (some ⟨b',0,none⟩) 0 0) (hg:g'=b'\/W.heap.size<=g') (ho:∀B,B<=b'->aL W' B (.slice (some ⟨g',0,none⟩) es.length c') es):
 eE w C pl eo ce es (bB L 5) (upd ρ 5 (.slice (some ⟨g',0,none⟩) es.length c')) W':=by
 obtain⟨b,a,c,H,x,y,z,S⟩:=h;have e:=(S.v2 h2).symm.trans hv;obtain rfl:b=b':=by simpa using e
 obtain⟨hlo,KF⟩:=S.e2 h2 h5;refine⟨b,some ⟨g',0,none⟩,c',H,x,y,z,S.low.trans (hb.mono S.low.size),S.v0,S.v1,S.v2,fun _ h=>(by cases h),S.v3,S.v4,fun _=>rfl,fun _=>ho _ hlo,fun h=> ?_,S.v7,fun h=>⟨(S.e7 h).1,b8 (S.e7 h).2 hb⟩,fun _ h7 e=> ?_,fun h=> ?_⟩
 .rw[show L 6=true from h] at h6;cases h6
 .have hH:=(S.e7 h7).2
  have hlt:=lt_of_block hH;obtain rfl:g'=H:=by simpa[Value.ownBlock] using e
  rcases hg with rfl|hg
  .rw[KF] at hH
   have:=congrArg (fun o=>match o with|some (Obj.cells _ t _)=>t|_=>27) hH;revert this;dsimp only;decide
  .omega
 .rw[show L 8=true from h] at h8;cases h8
theorem eE.six (h:eE w C pl eo ce es L ρ W) (h5:L 5=true):∃a c,ρ 5= .slice a es.length c/\eE w C pl eo ce es (bB L 6) (upd ρ 6 (.agg #[.bool pl,.slice none 0 0,.slice a es.length c])) W:=by
 obtain⟨b,a,c,H,x,y,z,S⟩:=h;exact⟨a,c,S.v5 h5,b,a,c,H,x,y,z,S.low,S.v0,S.v1,S.v2,S.e2,S.v3,S.v4,S.v5,S.e5,fun _=>rfl,S.v7,S.e7,S.f7,S.e8⟩
theorem eE.seven (h:eE w C pl eo ce es L ρ W) (h8:L 8=false) (x' y' z':Value):eE w C pl eo ce es (bB L 7) (upd ρ 7 (.pointer (some ⟨W.heap.size,0,none⟩))) (W.alloc (.cells #[x',y',z'] 27)):=by
 obtain⟨b,a,c,H,x,y,z,S⟩:=h;have hb:Below W.heap.size W (W.alloc (.cells #[x',y',z'] 27)):=(aaE _ _).alloc (aaD _) _;refine⟨b,a,c,W.heap.size,x',y',z',S.low.trans (hb.mono S.low.size),S.v0,S.v1,S.v2,fun h h'=>⟨(S.e2 h h').1,b8 (S.e2 h h').2 hb⟩,S.v3,S.v4,S.v5,fun h=>(S.e5 h).below hb (aaD _),S.v6,fun _=>rfl,fun _=>⟨S.low.size,heap_alloc_new _ _⟩,fun h _ e=> ?_,fun h=> ?_⟩
 .have:=(aaJ (S.e5 h) _ e).2
  omega
 .rw[show L 8=true from h] at h8;cases h8
theorem eE.eight (h:eE w C pl eo ce es L ρ W) (h2:L 5=true) (h6:L 6=true) (h7:L 7=true) (u:Value):∃H a c x y z,ρ 7= .pointer (some ⟨H,0,none⟩)/\ρ 6= .agg #[.bool pl,.slice none 0 0,.slice a es.length c]/\W.heap[H]? =some (.cells #[x,y,z] 27 (0,0))/\
 eE w C pl eo ce es (bB L 8) (upd ρ 8 u) (((W.setCell ⟨H,0,none⟩ (.bool pl)).setCell ⟨H,1,none⟩ (.slice none 0 0)).setCell ⟨H,2,none⟩ (.slice a es.length c)):=by
 obtain⟨b,a,c,H,x,y,z,S⟩:=h;obtain⟨hH,dN⟩:=S.e7 h7;refine⟨H,a,c,x,y,z,S.v7 h7,S.v6 h6,dN,b,a,c,H,_,_,_,((S.low.setCell hH _).setCell hH _).setCell hH _,S.v0,S.v1,S.v2,fun _ h=> ?_,S.v3,S.v4,S.v5,fun h=> ?_,S.v6,S.v7,fun _=>⟨hH,qH dN _ _ _⟩,S.f7,fun _=>⟨rfl,rfl,rfl⟩⟩
 .rw[show L 5=false from h] at h2;cases h2
 .refine bN (S.e5 h) fun g hg _ _=> ?_
  have hne:g≠H:=fun e=>S.f7 h h7 (by rw[hg,e])
  rw[heap_setCell_other _ ⟨H,2,none⟩ g _ hne,heap_setCell_other _ ⟨H,1,none⟩ g _ hne,heap_setCell_other _ ⟨H,0,none⟩ g _ hne]
theorem eE.done (h:eE w C pl eo ce es L ρ W) (hall:∀i,i<9->L i=true):∃H a c,ρ 7= .pointer (some ⟨H,0,none⟩)/\w.heap.size<=H/\W.heap[H]? =some (.cells #[.bool pl,.slice none 0 0,.slice a es.length c] 27 (0,0))/\aL W w.heap.size (.slice a es.length c) es/\(Value.slice a es.length c).ownBlock≠some H/\Below w.heap.size w W:=by
 obtain⟨b,a,c,H,x,y,z,S⟩:=h;obtain⟨rfl,rfl,rfl⟩:=S.e8 (hall 8 (by omega));exact⟨H,a,c,S.v7 (hall 7 (by omega)),(S.e7 (hall 7 (by omega))).1,(S.e7 (hall 7 (by omega))).2,S.e5 (hall 5 (by omega)),S.f7 (hall 5 (by omega)) (hall 7 (by omega)),S.low⟩
end
end
end Go.Proofs.YtdbjpbjocmcpkaaGreatDoor
