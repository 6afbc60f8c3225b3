import Derived.Test.YtbhdibflpjhpaaaGreatMg11
set_option maxHeartbeats 8000000
set_option maxRecDepth 100000
namespace Go.Proofs.YtbhdibflpjhpaaaGreat
section
namespace Ku
section
variable {es:List (Int×Int)} {n:Int} {hv:Si.Val n es}
theorem adV:(gs es hv).tw=Cs.twin:=rfl
theorem adW:(gs es hv).nx=kA es:=rfl
theorem CB (h:Nat) (l:List Nat):vs (gs es hv) (h::l)=Cs.fr es h::(h::l).map (Cs.to es):=by
 unfold vs;have:(gs es hv).to=Cs.to es:=funext fun x=>Eg x
 rw[this];rfl
theorem LH {e:Nat} (he:e<es.length) (h1:dg es (Cs.fr es (2*e))≠2) (h2:dg es (Cs.to es (2*e))≠2):Cn (gs es hv) [2*e]:=by
 have hlt:2*e<2*es.length:=by omega
 obtain⟨p,hp⟩:∃p,es[e]? =some p:=⟨_,aac he⟩;have hok:=hv.each e p hp;unfold Si.ok at hok;have hfr:=Cs.eP hp;refine⟨fun x hx=> ?_,.inl ?_,.inl ⟨Tr.one _,by simp,fun a ha=> ?_,fun a ha=> ?_⟩⟩
 .rw[aan.1 hx]
  exact hlt
 .have e0:vs (gs es hv) [2*e]=[Cs.fr es (2*e),Cs.to es (2*e)]:=by
   show [Cs.fr es (2*e),(gs es hv).to (2*e)]=_;rw[Eg]
  rw[e0];show Cs.fr es (2*e)<Cs.to es (2*e);omega
 .cases ha
  show kA es (Cs.twin (2*e))=none;rw[qA (Cs.iW hlt),Cs.xS];exact h1
 .cases ha
  show kA es (2*e)=none;rw[qA hlt];exact h2
theorem QN {e e':Nat} (h:By [2*e] e'):e'=e:=by
 obtain⟨x,hx,rfl⟩:=h;rw[aan.1 hx];omega
theorem tH (hd:∀v,dg es v≠2):∀{k:Nat},k<=es.length->rows es hv k=(es.take k).map fun p=>[p.1,p.2]
 |0,_=>by simp[rows,ij]
 |k+1,hk=>by
  obtain⟨p,hp⟩:∃p,es[k]? =some p:=⟨_,aac (by omega)⟩;have hc:=LH (hv:=hv) (e:=k) (by omega) (hd _) (hd _);have hch:ch es hv k=[2*k]:=r9 (x:=2*k) hc (by simp) (by omega);have hf:First es hv k:=fun e' h=>by
   rw[hch] at h;rw[QN h];exact aad _
  rw[uV hf,tH hd (by omega),hch,Si.rj hp,acS];have hok:=hv.each k p hp;unfold Si.ok at hok;have hfr:=Cs.eP hp
  congr 1
  have e0:vs (gs es hv) [2*k]=[Cs.fr es (2*k),Cs.to es (2*k)]:=by
   show [Cs.fr es (2*k),(gs es hv).to (2*k)]=_;rw[Eg]
  rw[e0];show [[(Cs.fr es (2*k):Int),(Cs.to es (2*k):Int)]]=[[p.1,p.2]];rw[hfr.1,hfr.2]
  congr 2
  .omega
  .congr 1
   omega
end
def e5:List (Int×Int):=[(0,1),(0,2),(0,3),(0,4),(1,2),(1,3),(1,4),(2,3),(2,4),(3,4)]
def ep:List (Int×Int):=[(0,1),(0,2),(0,3),(1,2),(1,4),(2,5),(3,4),(3,5),(4,5)]
def e4:List (Int×Int):=[(0,1),(0,2),(1,2),(2,3)]
theorem abW:Si.Val (5:Nat) e5:=by
 refine⟨by decide,by decide,by decide,fun j p hj=> ?_,fun j p q hp hq=> ?_⟩
 .match j,hj with
  |0,hj=>cases hj;unfold Si.ok;decide
  |1,hj=>cases hj;unfold Si.ok;decide
  |2,hj=>cases hj;unfold Si.ok;decide
  |3,hj=>cases hj;unfold Si.ok;decide
  |4,hj=>cases hj;unfold Si.ok;decide
  |5,hj=>cases hj;unfold Si.ok;decide
  |6,hj=>cases hj;unfold Si.ok;decide
  |7,hj=>cases hj;unfold Si.ok;decide
  |8,hj=>cases hj;unfold Si.ok;decide
  |9,hj=>cases hj;unfold Si.ok;decide
 .match j,hp,hq with
  |0,hp,hq=>cases hp;cases hq;unfold Si.lt;decide
  |1,hp,hq=>cases hp;cases hq;unfold Si.lt;decide
  |2,hp,hq=>cases hp;cases hq;unfold Si.lt;decide
  |3,hp,hq=>cases hp;cases hq;unfold Si.lt;decide
  |4,hp,hq=>cases hp;cases hq;unfold Si.lt;decide
  |5,hp,hq=>cases hp;cases hq;unfold Si.lt;decide
  |6,hp,hq=>cases hp;cases hq;unfold Si.lt;decide
  |7,hp,hq=>cases hp;cases hq;unfold Si.lt;decide
  |8,hp,hq=>cases hp;cases hq;unfold Si.lt;decide
theorem abV:Si.Val (6:Nat) ep:=by
 refine⟨by decide,by decide,by decide,fun j p hj=> ?_,fun j p q hp hq=> ?_⟩
 .match j,hj with
  |0,hj=>cases hj;unfold Si.ok;decide
  |1,hj=>cases hj;unfold Si.ok;decide
  |2,hj=>cases hj;unfold Si.ok;decide
  |3,hj=>cases hj;unfold Si.ok;decide
  |4,hj=>cases hj;unfold Si.ok;decide
  |5,hj=>cases hj;unfold Si.ok;decide
  |6,hj=>cases hj;unfold Si.ok;decide
  |7,hj=>cases hj;unfold Si.ok;decide
  |8,hj=>cases hj;unfold Si.ok;decide
 .match j,hp,hq with
  |0,hp,hq=>cases hp;cases hq;unfold Si.lt;decide
  |1,hp,hq=>cases hp;cases hq;unfold Si.lt;decide
  |2,hp,hq=>cases hp;cases hq;unfold Si.lt;decide
  |3,hp,hq=>cases hp;cases hq;unfold Si.lt;decide
  |4,hp,hq=>cases hp;cases hq;unfold Si.lt;decide
  |5,hp,hq=>cases hp;cases hq;unfold Si.lt;decide
  |6,hp,hq=>cases hp;cases hq;unfold Si.lt;decide
  |7,hp,hq=>cases hp;cases hq;unfold Si.lt;decide
theorem abX:Si.Val (4:Nat) e4:=by
 refine⟨by decide,by decide,by decide,fun j p hj=> ?_,fun j p q hp hq=> ?_⟩
 .match j,hj with
  |0,hj=>cases hj;unfold Si.ok;decide
  |1,hj=>cases hj;unfold Si.ok;decide
  |2,hj=>cases hj;unfold Si.ok;decide
  |3,hj=>cases hj;unfold Si.ok;decide
 .match j,hp,hq with
  |0,hp,hq=>cases hp;cases hq;unfold Si.lt;decide
  |1,hp,hq=>cases hp;cases hq;unfold Si.lt;decide
  |2,hp,hq=>cases hp;cases hq;unfold Si.lt;decide
theorem QH {es:List (Int×Int)} {v:Nat} (h:∀i,i<2*es.length->Cs.fr es i≠v):dg es v=0:=by
 unfold dg;generalize 2*es.length=k at h
 induction k with
 |zero=>rfl
 |succ k ih=>
  unfold Cs.out;rw[if_neg (h k (by omega))];exact ih fun i hi=>h i (by omega)
theorem d5 (v:Nat):dg e5 v≠2:=by
 by_cases h:v<5
 .match v,h with
  |0,_|1,_|2,_|3,_|4,_=>decide
 .rw[QH]
  .decide
  .intro i hi e
   have:∀i,i<20->Cs.fr e5 i<5:=by decide
   have:=this i hi;omega
theorem dp (v:Nat):dg ep v≠2:=by
 by_cases h:v<6
 .match v,h with
  |0,_|1,_|2,_|3,_|4,_|5,_=>decide
 .rw[QH]
  .decide
  .intro i hi e
   have:∀i,i<18->Cs.fr ep i<6:=by decide
   have:=this i hi;omega
def P5:List (List Int):=[[0,1],[0,2],[0,3],[0,4],[1,2],[1,3],[1,4],[2,3],[2,4],[3,4]]
def Pp:List (List Int):=[[0,1],[0,2],[0,3],[1,2],[1,4],[2,5],[3,4],[3,5],[4,5]]
theorem ab8 (hv:Si.Val ((5:Nat):Int) e5):rows e5 hv e5.length=P5:=tH d5 (aad _)
theorem ab7 (hv:Si.Val ((6:Nat):Int) ep):rows ep hv ep.length=Pp:=tH dp (aad _)
theorem WU:bJ e5 5=[0,1,2,3,4]:=by decide
theorem WT:bJ ep 6=[0,1,2,3,4,5]:=by decide
theorem afz (hv:Si.Val ((5:Nat):Int) e5):jB (rows e5 hv e5.length) e5 5=some (1,[0,1,2,3,4],P5):=by
 rw[ab8,PR (by rw[WU];rfl) (by rw[WU];decide),WU];show DI P5 1 [0,1,2,3,4] (eD [0,1,2,3,4] 5)=_;rw[T7];unfold DI;have hA:All P5 [(0,1),(0,2),(0,3),(0,4),(1,2),(1,3),(1,4),(2,3),(2,4),(3,4)]:=by
  refine⟨rfl,fun p hp=> ?_⟩;simp only[aaj,adu,or_false] at hp;rcases hp with rfl|rfl|rfl|rfl|rfl|rfl|rfl|rfl|rfl|rfl
  .exact⟨0,by decide⟩
  .exact⟨1,by decide⟩
  .exact⟨2,by decide⟩
  .exact⟨3,by decide⟩
  .exact⟨4,by decide⟩
  .exact⟨5,by decide⟩
  .exact⟨6,by decide⟩
  .exact⟨7,by decide⟩
  .exact⟨8,by decide⟩
  .exact⟨9,by decide⟩
 rw[if_pos hA];have:List.map (pathOf P5) [(0,1),(0,2),(0,3),(0,4),(1,2),(1,3),(1,4),(2,3),(2,4),(3,4)]=P5:=by decide
 rw[this]
theorem afy (hv:Si.Val ((6:Nat):Int) ep):jB (rows ep hv ep.length) ep 6=none:=by
 have hn:bH Pp [0,1,2,3,4,5] 6=[0,4,5]:=by decide
 have hf:dP Pp [0,1,2,3,4,5] 6=[1,2,3]:=by decide
 have hz:ZL (bJ ep 6)=[0,1,2,3,4,5]:=by rw[WT];rfl
 rw[ab7,PO (by rw[WT];rfl) (by rw[WT];decide) (by rw[hz,hn];rfl),hz,hn,hf,WQ];unfold DI;rw[if_neg];intro hA;obtain⟨i,hi⟩:=hA.2 (4,2) (by simp);have:idx Pp (4,2)=none:=by decide
 rw[this] at hi;cases hi
theorem ab9 (hv:Si.Val ((4:Nat):Int) e4):rows e4 hv e4.length=[[2,0,1,2],[2,3]]:=by
 have c1:Cn (gs e4 hv) [3,0,4]:=by
  refine⟨fun x hx=> ?_,?_,.inl ⟨fun i a b ha hb=> ?_,by simp,fun a ha=> ?_,fun a ha=> ?_⟩⟩
  .show x<8
   simp at hx;omega
  .rw[CB,show Cs.fr e4 3::List.map (Cs.to e4) [3,0,4]=[2,0,1,2] by decide]
   exact .inr ⟨rfl,by decide⟩
  .match i,ha,hb with
   |0,ha,hb=>cases ha;cases hb;show kA e4 3=some 0;decide
   |1,ha,hb=>cases ha;cases hb;show kA e4 0=some 4;decide
  .cases ha
   rw[adW,adV];decide
  .cases ha
   show kA e4 4=none;decide
 have c2:Cn (gs e4 hv) [6]:=LH (e:=3) (by decide) (by decide) (by decide);have h0:ch e4 hv 0=[3,0,4]:=r9 c1 (x:=0) (by simp) rfl;have h1:ch e4 hv 1=[3,0,4]:=r9 c1 (x:=3) (by simp) rfl;have h2:ch e4 hv 2=[3,0,4]:=r9 c1 (x:=4) (by simp) rfl;have h3:ch e4 hv 3=[6]:=r9 c2 (x:=6) (by simp) rfl;have f0:First e4 hv 0:=fun e' _=>ab6 _
 have f1:¬First e4 hv 1:=fun h=>by
  have:=h 0 (by rw[h1];exact⟨0,by simp,rfl⟩);omega
 have f2:¬First e4 hv 2:=fun h=>by
  have:=h 0 (by rw[h2];exact⟨0,by simp,rfl⟩);omega
 have f3:First e4 hv 3:=fun e' h=>by
  rw[h3] at h;have:=QN (e:=3) h;omega
 show rows e4 hv 4=_;rw[uV f3,C1 f2,C1 f1,uV f0,h0,h3,CB,CB,show Cs.fr e4 3::List.map (Cs.to e4) [3,0,4]=[2,0,1,2] by decide,show Cs.fr e4 6::List.map (Cs.to e4) [6]=[2,3] by decide];rfl
end Ku
end
section
open Go.Proofs.Tryz
open Go.RowKit Go.Sort Go.Maps
namespace Ku
theorem CG {w:World} {k j:Nat} {t:TypeId} {a0 a1 a2 b0 b1 b2:Value} (hne:j≠k) (hk:w.heap[k]? =some (.cells #[a0,a1,a2] t (0,0))) (hj:w.heap[j]? =some (.cells #[b0,b1,b2] t (0,0))) (x y z:Value):
 (w.cell? ⟨k,0,none⟩=some a0/\w.cell? ⟨k,1,none⟩=some a1/\w.cell? ⟨k,2,none⟩=some a2/\w.frozen? ⟨k,0,none⟩=false/\w.frozen? ⟨k,1,none⟩=false/\w.frozen? ⟨k,2,none⟩=false)/\
 (∀X,X=((w.setCell ⟨k,0,none⟩ x).setCell ⟨k,1,none⟩ y).setCell ⟨k,2,none⟩ z->(X.cell? ⟨k,0,none⟩=some x/\X.cell? ⟨k,1,none⟩=some y/\X.cell? ⟨k,2,none⟩=some z)/\
   (X.cell? ⟨j,0,none⟩=some b0/\X.cell? ⟨j,1,none⟩=some b1/\X.cell? ⟨j,2,none⟩=some b2/\X.frozen? ⟨j,0,none⟩=false/\X.frozen? ⟨j,1,none⟩=false/\X.frozen? ⟨j,2,none⟩=false)):=by
 obtain⟨c0,c1,c2,cf⟩:=cu hk;refine⟨⟨c0,c1,c2,cf 0,cf 1,cf 2⟩,?_⟩;rintro X rfl;obtain⟨d0,d1,d2,df⟩:=cu ((qj (u:=w) (k8:=k) x y z j hne).trans hj);exact⟨aI c0 c1 c2 x y z,d0,d1,d2,df 0,df 1,df 2⟩
end Ku
theorem ng (n:Int) (ao:Option Addr) (cap:Nat) (es:List (Int×Int)) (w:World) (he:aN w ao es) (hl:es.length<=4611686018427387904):
 Calls prog 5 #[.agg #[.int .i64 n,.slice ao es.length cap]] w (Ku.Xn n es w):=by
 obtain⟨W1,hW1⟩:∃W1,W1=w.alloc (.cells #[.int .i64 n,.slice ao es.length cap] 24):=⟨_,rfl⟩;obtain⟨W,hW⟩:∃W,W=W1.alloc (.cells #[.int .i64 0,.slice none 0 0,.slice none 0 0] 30):=⟨_,rfl⟩;have hsz:W1.heap.size=w.heap.size+1:=by rw[hW1];simp
 have g1:W1.heap[w.heap.size]? =some (.cells #[.int .i64 n,.slice ao es.length cap] 24 (0,0)):=by rw[hW1];exact heap_alloc_new w _
 have hB1:Below w.heap.size w W1:=by rw[hW1];exact(aae _ _).alloc (aad _) _
 have hB2:Below W1.heap.size W1 W:=by rw[hW];exact(aae _ _).alloc (aad _) _
 have jE:Below w.heap.size w W:=hB1.trans (hB2.mono hB1.size);have g2:W.heap[w.heap.size+1]? =some (.cells #[.int .i64 0,.slice none 0 0,.slice none 0 0] 30 (0,0)):=by rw[hW,<-hsz];exact heap_alloc_new W1 _
 have g1':W.heap[w.heap.size]? =some (.cells #[.int .i64 n,.slice ao es.length cap] 24 (0,0)):=by rw[hB2.block _ (by omega)];exact g1
 have Zm:w.heap.size+1<W.heap.size:=lt_of_block g2;have ko:=ζ (qT n ao cap es W (he.later jE) hl);unfold cH at ko;have jG:=ζ g2;have fP:=ζ jE;have HW:Hid (W=(w.alloc (.cells #[.int .i64 n,.slice ao es.length cap] 24)).alloc (.cells #[.int .i64 0,.slice none 0 0,.slice none 0 0] 30)):=by rw[hW,hW1];exact ζ rfl
 obtain⟨q0,q1,-⟩:=aj g1';rw[HW.out] at q0 q1;clear he hB1 hB2 jE g1 g2 g1' hW hW1 hsz;go_enter func5,ntmps5;go_wp2_with (go_at_call 13;rw[<-HW.out];refine ko.out.mono ?_;refine abQ ?_);refine ζ ?_;rintro e w1 ⟨gD,hb1⟩;have aY:=ζ (fP.out.trans (hb1.mono fP.out.size));have OA:w1.heap[w.heap.size+1]? =some (.cells #[.int .i64 0,.slice none 0 0,.slice none 0 0] 30 (0,0)):=(hb1.block _ (by omega)).trans jG.out;have mY:=ζ OA;have hs1:=hb1.size;clear q0 q1;rcases gD with ⟨m,p,rfl,hval,rfl,aV⟩|⟨hv,rfl⟩
 .have HIA:Hid (∀U:World,Below w1.heap.size w1 U->bK U (.pointer (some ⟨p,0,none⟩)) m es):=fun U hU=>bK.later (.inr ⟨_,p,rfl,hval,aV⟩) hU
  have HV:=ζ hval;have Pq:=ζ (Bj p m es w1 (HIA.out w1 (aae _ _)) hval);have hm:m<=1048576:=by have:=hval.hi;omega
  clear aV hb1 hval OA;go_wp2_with (go_at_call 14;refine Pq.out.mono ?_;refine abQ ?_);refine ζ ?_;rintro e w2 ⟨v,rfl,ho,hb2⟩;obtain⟨la,lc,qH,yz,hlb⟩:=ho.form;obtain⟨q,hq⟩:∃q,(Ku.ZL (Ku.bJ es m)).length=q:=⟨_,rfl⟩;rw[hq] at qH;subst qH;have hroom:q<=lc/\lc<=9223372036854775807:=by
   rcases ho.2 with ⟨e,h0⟩|⟨g,cap,cur,e,_,_,h1,h2,_⟩
   .cases e
    exact⟨aad _,by omega⟩
   .cases e
    rw[<-hq];exact⟨h1,by unfold maxLen at h2;omega⟩
  have N8:q<=1048576:=by rw[<-hq,Ku.fC];have:=Ku.Bc es m;omega
  have Jq:Hid ((Ku.bJ es m).length=q):=by rw[<-Ku.fC];exact ζ hq
  have hs2:=hb2.size;obtain⟨V,hV⟩:∃V,V=w2.alloc (.cells #[.int .i64 0,.slice none 0 0,.slice none 0 0] 30):=⟨_,rfl⟩;have hBV:Below w2.heap.size w2 V:=by rw[hV];exact(aae _ _).alloc (aad _) _
  have gV:V.heap[w2.heap.size]? =some (.cells #[.int .i64 0,.slice none 0 0,.slice none 0 0] 30 (0,0)):=by rw[hV];exact heap_alloc_new w2 _
  have hVs:w2.heap.size<V.heap.size:=lt_of_block gV;have Ec:Below w1.heap.size w1 V:=hb2.trans (hBV.mono hb2.size);have gV2:V.heap[w.heap.size+1]? =some (.cells #[.int .i64 0,.slice none 0 0,.slice none 0 0] 30 (0,0)):=(Ec.block _ (by omega)).trans mY.out;have Th:=ζ hV;have XY:=ζ gV;have abF:=ζ gV2;have anP:=ζ Ec;have jo:=ζ (aY.out.trans (Ec.mono aY.out.size));have Tk:Hid (∀U:World,(∀b,b<w2.heap.size->w1.heap.size<=b->U.heap[b]? =w2.heap[b]?)->aH U w.heap.size (.slice la q lc) (Ku.ZL (Ku.bJ es m))):=fun U hU=>(ho.lower (by omega)).same fun g hg hl=>hU g hl (acj ho g hg).1
  have HLI:=ζ (yz.later hBV);have Pj:Hid (∀b,(Value.slice la q lc).ownBlock=some b->w1.heap.size<=b/\b<w2.heap.size):=fun b hb=>acj ho b hb
  have HHV:Hid (∀(d:Nat) (r:Bool),(r=true↔∀v∈Ku.bJ es m,Ku.dg es v=d)->Calls prog 15 #[.pointer (some ⟨p,0,none⟩),.slice la q lc,.int .i64 (d:Int)] V fun e w'=>e= .returned (.bool r)/\Below V.heap.size V w'):=fun d r hr=>MG p m es la q lc d (Ku.bJ es m) V (HIA.out V Ec) Jq.out HLI.out (fun v hv=>(Ku.mI.1 hv).1) (by omega) r hr
  have abH:Hid (∀U:World,Below V.heap.size V U->Calls prog 17 #[.pointer (some ⟨p,0,none⟩)] U (Ku.Q7 es HV.out U)):=fun U hU=>xP p m es U (HIA.out U (Ec.trans (hU.mono Ec.size))) HV.out
  obtain⟨z0,z1,z2,zf⟩:=cu gV2;obtain⟨y0,y1,y2,yf⟩:=cu gV;have hz0:=zf 0;have hz1:=zf 1;have hz2:=zf 2;have hy0:=yf 0;have hy1:=yf 1;have hy2:=yf 2;have hkn:w.heap.size+1≠w2.heap.size:=by omega
  clear yz hlb ho hb2 hV hBV gV gV2 Ec hq zf yf;obtain⟨R,hR⟩:∃R,Ku.rows es HV.out es.length=R:=⟨_,rfl⟩;have tu:=ζ hR;have ZV:Hid (Ku.Small R):=by rw[<-hR];exact ζ (Ku.J1 HV.out)
  have Mr:Hid (∀U:World,Below V.heap.size V U->U.heap[w2.heap.size]? =some (.cells #[.int .i64 0,.slice none 0 0,.slice none 0 0] 30 (0,0))/\U.heap[w.heap.size+1]? =some (.cells #[.int .i64 0,.slice none 0 0,.slice none 0 0] 30 (0,0))/\bV U la (Ku.ZL (Ku.bJ es m))):=fun U hU=>⟨(hU.block _ (lt_of_block XY.out)).trans XY.out,(hU.block _ (lt_of_block abF.out)).trans abF.out,HLI.out.later hU⟩
  have Fg:=jo.out.size;have abo:Hid ((Ku.ZL (Ku.bJ es m)).Pairwise (· <·)):=ζ (Ku.Xi (Ku.Cp es m));have XI:Hid (∀x∈Ku.ZL (Ku.bJ es m),0<=x/\x<1048576):=by
   refine ζ fun x hx=> ?_
   unfold Ku.ZL at hx;obtain⟨v,hv',rfl⟩:=abT.1 hx;have:=(Ku.mI.1 hv').1;omega
  have ZO:Hid ((Ku.ZL (Ku.bJ es m)).length=q):=by rw[Ku.fC];exact Jq
  clear hR;clear z0 z1 z2 y0 y1 y2 hz0 hz1 hz2 hy0 hy1 hy2;have EW:Hid (¬((Ku.bJ es m).length=5/\∀v∈Ku.bJ es m,Ku.dg es v=4)->¬((Ku.bJ es m).length=6/\∀v∈Ku.bJ es m,Ku.dg es v=3)->Ku.jB (Ku.rows es HV.out es.length) es m=none):=fun h1 h2=>Ku.J4 h1 fun h=>h2 ⟨h.1,h.2.1⟩
  by_cases h5:q=5
  .have t5:((q:Int)==5)=true:=by rw[h5];rfl
   have t6:((q:Int)==6)=false:=by rw[h5];rfl
   obtain⟨r,hr⟩:=Ku.CT (∀v∈Ku.bJ es m,Ku.dg es v=4);have Pd:Hid (Calls prog 15 #[.pointer (some ⟨p,0,none⟩),.slice la q lc,.int .i64 4] V fun e w'=>e= .returned (.bool r)/\Below V.heap.size V w'):=HHV.out 4 r hr;have HR:=ζ hr;have H5:=ζ h5;clear hr h5;cases r with
   |true=>
    have q9:=ζ (HR.out.1 rfl);go_wp2_with (go_at_call 15;rw[<-Th.out];refine Pd.out.mono ?_;rintro e w3 ⟨rfl,hb3⟩;refine abQ ?_);refine ζ ?_;obtain⟨HCc⟩:Nonempty (Hid (Calls prog 17 #[.pointer (some ⟨p,0,none⟩)] w3 (Ku.Q7 es HV.out w3))):=⟨abH.out w3 hb3⟩;have cz:=ζ hb3;have hs3:=hb3.size;clear hb3;go_wp2_with (go_at_call 17;refine HCc.out.mono ?_;refine abQ ?_);refine ζ ?_;rintro e w4 ⟨cv,cs,rfl,xd,hb4⟩;rw[tu.out] at xd;obtain⟨ca,cc,rfl⟩:=gU xd;obtain⟨J,hJ⟩:∃J,R.length=J:=⟨_,rfl⟩;rw[hJ] at xd ⊢;have HJ:=ζ hJ;have XL:=ζ xd;have iE:=ζ (cz.out.trans (hb4.mono cz.out.size));have Y0:=hb4.size;have XH:=ζ (Cy ca J cc R w4 hJ (by rw[<-hJ] at xd ⊢;exact Ku.nT xd) ZV.out);clear xd hb4 hJ;go_wp2_with (go_at_call 16;refine XH.out.mono ?_;refine abQ ?_);refine ζ ?_;rintro e w5 ⟨mb,rfl,hmb,oy,hb5⟩;have jN:=ζ (iE.out.trans (hb5.mono iE.out.size));have hs5:=hb5.size;have zi:Hid (∀b,eX cs b->w3.heap.size<=b/\b<w4.heap.size):=fun b hb=>XL.out.within (.inr hb)
    obtain⟨g8,g2,yz⟩:=Mr.out w5 jN.out;have HFV:Hid (Calls prog 18 #[.agg #[.slice ca J cc,.map (some mb)],.slice la q lc] w5 (Ku.pR w3.heap.size cs R 1 (.slice la q lc) (Ku.eD (Ku.ZL (Ku.bJ es m)) q) w5)):=by
     have h5:=H5.out;have Va:=Ku.J8 (L:=Ku.ZL (Ku.bJ es m)) (ZO.out.trans h5) abo.out XI.out;refine ζ (MJ w3.heap.size ca J cc mb R.length cs R la q lc (Ku.ZL (Ku.bJ es m)) w5 HJ.out (by omega) (XL.out.later hb5) ZV.out oy (fun h=> ?_) ZO.out (by omega) (by omega) hroom.1 hroom.2 yz (by rw[h5];exact Va.1) (by rw[h5];exact Va.2));have:=zi.out mb h;omega
    have HG8:=ζ g8;have jG:=ζ g2;clear oy hb5 yz g8 g2;go_wp2_with (go_at_call 18;refine HFV.out.mono ?_;refine abQ ?_);refine ζ ?_;rintro e w6 hk;obtain⟨v1,s1,s2,s3,u1,u2,u3,rr,rfl⟩:=hk.shape;have HK:=ζ hk;have jW:Hid (∀b,b<w5.heap.size->¬eX cs b->w6.heap[b]? =w5.heap[b]?):=fun b h1 h2=>hk.2.block b h1 h2
    have hs6:=hk.2.size;have lD:=ζ hk.2;clear hk;have Vx:w6.heap[w2.heap.size]? =some (.cells #[.int .i64 0,.slice none 0 0,.slice none 0 0] 30 (0,0)):=(jW.out _ (by omega) (fun h=>by have:=zi.out _ h;omega)).trans HG8.out;have hg2:w6.heap[w.heap.size+1]? =some (.cells #[.int .i64 0,.slice none 0 0,.slice none 0 0] 30 (0,0)):=(jW.out _ (by omega) (fun h=>by have:=zi.out _ h;omega)).trans jG.out;obtain⟨⟨y0,y1,y2,hy0,hy1,hy2⟩,XA⟩:=Ku.CG hkn Vx hg2 (.int .i64 v1) (.slice s1 s2 s3) (.slice u1 u2 u3);obtain⟨⟨x0,x1,x2⟩,z0,z1,z2,hz0,hz1,hz2⟩:=XA _ rfl;have Jy:Hid (Below w.heap.size w ((((((w6.setCell ⟨w2.heap.size,0,none⟩ (.int .i64 v1)).setCell ⟨w2.heap.size,1,none⟩ (.slice s1 s2 s3)).setCell ⟨w2.heap.size,2,none⟩ (.slice u1 u2 u3)).setCell ⟨w.heap.size+1,0,none⟩ (.int .i64 v1)).setCell ⟨w.heap.size+1,1,none⟩ (.slice s1 s2 s3)).setCell ⟨w.heap.size+1,2,none⟩ (.slice u1 u2 u3))):=by
     have eC:Below w.heap.size w w6:=⟨lD.out.os.trans (jo.out.trans (jN.out.mono jo.out.size)).os,lD.out.tape.trans (jo.out.trans (jN.out.mono jo.out.size)).tape,lD.out.output.trans (jo.out.trans (jN.out.mono jo.out.size)).output,by omega,fun b hb=>(jW.out b (by omega) (fun h=>by have:=zi.out b h;omega)).trans ((jo.out.trans (jN.out.mono jo.out.size)).block b hb)⟩;exact ζ (fN (fN eC (by omega) _ _ _) (by omega) _ _ _)
    clear XA Vx hg2;go_wp2;refine bodyPost_ret (gu rfl rfl _ _ (w.heap.size+1) _ _ _ _ _ rfl rfl rfl (aI z0 z1 z2 _ _ _).1 (aI z0 z1 z2 _ _ _).2.1 (aI z0 z1 z2 _ _ _).2.2) rfl ?_;have jm:Hid (aH w6 w.heap.size (.slice la q lc) (Ku.ZL (Ku.bJ es m))):=Tk.out w6 fun b h1 h2=>by
     rw[jW.out b (by omega) (fun h=>by have:=zi.out b h;omega),jN.out.block b (by omega),Th.out];exact heap_alloc_old w2 _ h1
    refine⟨.inr ⟨m,HV.out,rfl,?_⟩,Jy.out⟩;rw[Ku.PR (Jq.out.trans H5.out) q9.out,tu.out];have hk:=HK.out;rw[show q=5 from H5.out] at hk;rw[show q=5 from H5.out] at jm Pj;refine Ku.KF (c1:=w2.heap.size) (c2:=w.heap.size+1) hk jm.out (by omega) (fun b h1 h2=> ?_) (fun b hb=> ?_) (fun b k v pv r hb he=> ?_) rfl
    .rw[Ku.qj _ _ _ b h2,Ku.qj _ _ _ b h1]
    .rcases hb with h|h|h
     .have:=Pj.out b h
      omega
     .have:=zi.out b h
      omega
     .omega
    .have h1:=Pj.out b hb
     refine⟨fun h=> ?_,fun h=>by have:=zi.out b h;omega⟩;rcases hk.1 with ⟨_,h2⟩|⟨_,C9,vs,h2,_,h3,_⟩
     .rw[h2] at he
      unfold Ku.pK at he;cases he;cases h
     .rw[h2] at he
      cases he;have:=h3 b h;omega
   |false=>
    go_wp2_with (go_at_call 15;rw[<-Th.out];refine Pd.out.mono ?_;rintro e w3 ⟨rfl,hb3⟩;refine abQ ?_);refine ζ ?_;have HX:Hid (Ku.jB (Ku.rows es HV.out es.length) es m=none):=EW.out (fun h=>by have:=HR.out.2 h.2;cases this) (fun h=>by have h1:=Jq.out;have h2:=H5.out;omega);obtain⟨g8,g2,-⟩:=Mr.out w3 hb3;have cz:=ζ (jo.out.trans (hb3.mono jo.out.size));obtain⟨y0,y1,y2,yf⟩:=cu g8;obtain⟨z0,z1,z2,zf⟩:=cu g2;have hz0:=zf 0;have hz1:=zf 1;have hz2:=zf 2;clear zf yf;go_wp2;refine bodyPost_ret (gu rfl rfl _ _ (w.heap.size+1) _ _ _ _ _ rfl rfl rfl (aI z0 z1 z2 _ _ _).1 (aI z0 z1 z2 _ _ _).2.1 (aI z0 z1 z2 _ _ _).2.2) rfl ?_;exact⟨.inr ⟨m,HV.out,rfl,by rw[HX.out];rfl⟩,fN cz.out (by omega) _ _ _⟩
  .have t5:((q:Int)==5)=false:=by simp;omega
   by_cases h6:q=6
   .have t6:((q:Int)==6)=true:=by rw[h6];rfl
    obtain⟨r,hr⟩:=Ku.CT (∀v∈Ku.bJ es m,Ku.dg es v=3);have Pd:Hid (Calls prog 15 #[.pointer (some ⟨p,0,none⟩),.slice la q lc,.int .i64 3] V fun e w'=>e= .returned (.bool r)/\Below V.heap.size V w'):=HHV.out 3 r hr;have HR:=ζ hr;have H6:=ζ h6;clear hr h6 h5;cases r with
    |true=>
     have q9:=ζ (HR.out.1 rfl);go_wp2_with (go_at_call 15;rw[<-Th.out];refine Pd.out.mono ?_;rintro e w3 ⟨rfl,hb3⟩;refine abQ ?_);refine ζ ?_;obtain⟨HCc⟩:Nonempty (Hid (Calls prog 17 #[.pointer (some ⟨p,0,none⟩)] w3 (Ku.Q7 es HV.out w3))):=⟨abH.out w3 hb3⟩;have cz:=ζ hb3;have hs3:=hb3.size;clear hb3;go_wp2_with (go_at_call 17;refine HCc.out.mono ?_;refine abQ ?_);refine ζ ?_;rintro e w4 ⟨cv,cs,rfl,xd,hb4⟩;rw[tu.out] at xd;obtain⟨ca,cc,rfl⟩:=gU xd;obtain⟨J,hJ⟩:∃J,R.length=J:=⟨_,rfl⟩;rw[hJ] at xd ⊢;have HJ:=ζ hJ;have XL:=ζ xd;have iE:=ζ (cz.out.trans (hb4.mono cz.out.size));have Y0:=hb4.size;have XH:=ζ (Cy ca J cc R w4 hJ (by rw[<-hJ] at xd ⊢;exact Ku.nT xd) ZV.out);clear xd hb4 hJ;go_wp2_with (go_at_call 16;refine XH.out.mono ?_;refine abQ ?_);refine ζ ?_;rintro e w5 ⟨mb,rfl,hmb,oy,hb5⟩;have jN:=ζ (iE.out.trans (hb5.mono iE.out.size));have hs5:=hb5.size;have zi:Hid (∀b,eX cs b->w3.heap.size<=b/\b<w4.heap.size):=fun b hb=>XL.out.within (.inr hb)
     obtain⟨g8,g2,yz⟩:=Mr.out w5 jN.out;have HFV:Hid (Calls prog 19 #[.agg #[.slice ca J cc,.map (some mb)],.slice la q lc] w5 (Ku.Xj w3.heap.size cs R (Ku.ZL (Ku.bJ es m)) q w5)):=by
      have h6:=H6.out;have Va:=fun h3=>Ku.LL (R:=R) (L:=Ku.ZL (Ku.bJ es m)) (ZO.out.trans h6) abo.out XI.out h3
      refine ζ (Ra w3.heap.size ca J cc mb R.length cs R la q lc (Ku.ZL (Ku.bJ es m)) w5 HJ.out (by omega) (XL.out.later hb5) ZV.out oy (fun h=> ?_) ZO.out h6 yz XI.out (by rw[h6];exact fun h3=>(Va h3).1) (by rw[h6];exact fun h3=>(Va h3).2));have:=zi.out mb h;omega
     have HG8:=ζ g8;have jG:=ζ g2;clear oy hb5 yz g8 g2;go_wp2_with (go_at_call 19;refine HFV.out.mono ?_;refine abQ ?_);refine ζ ?_;rintro e w6 hk;have HK:=ζ hk;have hsh:∃(v1:Int) (s1:Option Addr) (s2 s3:Nat) (u1:Option Addr) (u2 u3:Nat) (r:Bool),e= .returned (.tuple #[.agg #[.int .i64 v1,.slice s1 s2 s3,.slice u1 u2 u3],.bool r]):=by
      rcases hk with ⟨_,h,_⟩|⟨_,bv,ho,_,h⟩
      .exact⟨_,_,_,_,_,_,_,_,h⟩
      .obtain⟨xa,xc,rfl,-,-⟩:=ho.form
       exact h.shape
     obtain⟨v1,s1,s2,s3,u1,u2,u3,rr,rfl⟩:=hsh;have hwr:az (fun b=>eX cs b) w5 w6:=by
      rcases hk with ⟨_,_,h⟩|⟨_,bv,_,_,h⟩
      .exact(az.refl _ w5).later h
      .exact h.2
     have jW:Hid (∀b,b<w5.heap.size->¬eX cs b->w6.heap[b]? =w5.heap[b]?):=fun b h1 h2=>hwr.block b h1 h2
     have hs6:=hwr.size;have lD:=ζ hwr;clear hk hwr;have Vx:w6.heap[w2.heap.size]? =some (.cells #[.int .i64 0,.slice none 0 0,.slice none 0 0] 30 (0,0)):=(jW.out _ (by omega) (fun h=>by have:=zi.out _ h;omega)).trans HG8.out;have hg2:w6.heap[w.heap.size+1]? =some (.cells #[.int .i64 0,.slice none 0 0,.slice none 0 0] 30 (0,0)):=(jW.out _ (by omega) (fun h=>by have:=zi.out _ h;omega)).trans jG.out;obtain⟨⟨y0,y1,y2,hy0,hy1,hy2⟩,XA⟩:=Ku.CG hkn Vx hg2 (.int .i64 v1) (.slice s1 s2 s3) (.slice u1 u2 u3);obtain⟨⟨x0,x1,x2⟩,z0,z1,z2,hz0,hz1,hz2⟩:=XA _ rfl;have Jy:Hid (Below w.heap.size w ((((((w6.setCell ⟨w2.heap.size,0,none⟩ (.int .i64 v1)).setCell ⟨w2.heap.size,1,none⟩ (.slice s1 s2 s3)).setCell ⟨w2.heap.size,2,none⟩ (.slice u1 u2 u3)).setCell ⟨w.heap.size+1,0,none⟩ (.int .i64 v1)).setCell ⟨w.heap.size+1,1,none⟩ (.slice s1 s2 s3)).setCell ⟨w.heap.size+1,2,none⟩ (.slice u1 u2 u3))):=by
      have eC:Below w.heap.size w w6:=⟨lD.out.os.trans (jo.out.trans (jN.out.mono jo.out.size)).os,lD.out.tape.trans (jo.out.trans (jN.out.mono jo.out.size)).tape,lD.out.output.trans (jo.out.trans (jN.out.mono jo.out.size)).output,by omega,fun b hb=>(jW.out b (by omega) (fun h=>by have:=zi.out b h;omega)).trans ((jo.out.trans (jN.out.mono jo.out.size)).block b hb)⟩;exact ζ (fN (fN eC (by omega) _ _ _) (by omega) _ _ _)
     clear XA Vx hg2;go_wp2;refine bodyPost_ret (gu rfl rfl _ _ (w.heap.size+1) _ _ _ _ _ rfl rfl rfl (aI z0 z1 z2 _ _ _).1 (aI z0 z1 z2 _ _ _).2.1 (aI z0 z1 z2 _ _ _).2.2) rfl ?_;refine⟨.inr ⟨m,HV.out,rfl,?_⟩,Jy.out⟩;have hk:=HK.out;unfold Ku.Xj at hk;rw[show q=6 from H6.out] at hk;rw[tu.out];rcases hk with ⟨h3,h2,-⟩|⟨h3,bv,ho,hap,hk⟩
     .rw[Ku.J4 (fun h=>by have h1:=Jq.out;have h2:=H6.out;omega) fun h=>h3 h.2.2]
      unfold Ku.pK at h2;cases h2;rfl
     .rw[Ku.PO (Jq.out.trans H6.out) q9.out h3]
      have hbl:∀b,bv.ownBlock=some b->w5.heap.size<=b:=fun b hb=>(acj ho b hb).1
      refine Ku.KF (c1:=w2.heap.size) (c2:=w.heap.size+1) hk (ho.lower (by omega)) (by omega) (fun b h1 h2=> ?_) (fun b hb=> ?_) (fun b k v pv r hb he=> ?_) rfl
      .rw[Ku.qj _ _ _ b h2,Ku.qj _ _ _ b h1]
      .rcases hb with h|h|h
       .have:=hbl b h
        omega
       .have:=zi.out b h
        omega
       .omega
      .exact⟨(hap b k v pv r hb he).2,fun h=>by have h1:=zi.out b h;have h2:=hbl b hb;omega⟩
    |false=>
     go_wp2_with (go_at_call 15;rw[<-Th.out];refine Pd.out.mono ?_;rintro e w3 ⟨rfl,hb3⟩;refine abQ ?_);refine ζ ?_;have HX:Hid (Ku.jB (Ku.rows es HV.out es.length) es m=none):=EW.out (fun h=>by have h1:=Jq.out;have h2:=H6.out;omega) (fun h=>by have:=HR.out.2 h.2;cases this);obtain⟨g8,g2,-⟩:=Mr.out w3 hb3;have cz:=ζ (jo.out.trans (hb3.mono jo.out.size));obtain⟨y0,y1,y2,yf⟩:=cu g8;obtain⟨z0,z1,z2,zf⟩:=cu g2;have hz0:=zf 0;have hz1:=zf 1;have hz2:=zf 2;clear zf yf;go_wp2;refine bodyPost_ret (gu rfl rfl _ _ (w.heap.size+1) _ _ _ _ _ rfl rfl rfl (aI z0 z1 z2 _ _ _).1 (aI z0 z1 z2 _ _ _).2.1 (aI z0 z1 z2 _ _ _).2.2) rfl ?_;exact⟨.inr ⟨m,HV.out,rfl,by rw[HX.out];rfl⟩,fN cz.out (by omega) _ _ _⟩
   .have t6:((q:Int)==6)=false:=by simp;omega
    have HX:Hid (Ku.jB (Ku.rows es HV.out es.length) es m=none):=EW.out (fun h=>by have h1:=Jq.out;omega) (fun h=>by have h1:=Jq.out;omega);clear h5 h6;obtain⟨g8,g2,-⟩:=Mr.out V (aae _ _);have cz:=jo;rw[Th.out] at g8 g2 cz;obtain⟨y0,y1,y2,yf⟩:=cu g8;obtain⟨z0,z1,z2,zf⟩:=cu g2;have hz0:=zf 0;have hz1:=zf 1;have hz2:=zf 2;clear zf yf;go_wp2;refine bodyPost_ret (gu rfl rfl _ _ (w.heap.size+1) _ _ _ _ _ rfl rfl rfl (aI z0 z1 z2 _ _ _).1 (aI z0 z1 z2 _ _ _).2.1 (aI z0 z1 z2 _ _ _).2.2) rfl ?_;exact⟨.inr ⟨m,HV.out,rfl,by rw[HX.out];rfl⟩,fN cz.out (by omega) _ _ _⟩
 .have Ti:=ζ hv
  obtain⟨z0,z1,z2,zf⟩:=cu OA;have hf0:=zf 0;have vW:=zf 1;have hf2:=zf 2;clear hv hb1 zf OA;go_wp2;refine bodyPost_ret (gu rfl rfl _ _ (w.heap.size+1) _ _ _ _ _ rfl rfl rfl (aI z0 z1 z2 _ _ _).1 (aI z0 z1 z2 _ _ _).2.1 (aI z0 z1 z2 _ _ _).2.2) rfl ?_;exact⟨.inl ⟨Ti.out,rfl⟩,fN aY.out (by omega) _ _ _⟩
end
section
open Go.RowKit
def sK (w:World) (g:Nat) (l:List (Int×Int)):Prop:=w.heap[g]? =some (.cells (kU l).toArray 38 (0,0))
section
variable {w w':World} {g:Nat} {l:List (Int×Int)}
theorem sK.cells (h:sK w g l) {i:Nat} {p:Int×Int} (hp:l[i]? =some p):w.cell? ⟨g,i*2,none⟩=some (.int .i64 p.1)/\w.cell? ⟨g,i*2+1,none⟩=some (.int .i64 p.2):=by
 obtain⟨h0,h1⟩:=vF l i p hp;unfold sK at h;simp[World.cell?,h,h0,h1]
theorem sK.at (h:sK w g l):aN w (some ⟨g,0,none⟩) l:=fun j p hj=>⟨g,0,rfl,by rw[ac7];exact(h.cells hj).1,by rw[ac7];exact(h.cells hj).2⟩
end
section
end
end
section
open Go.RowKit Go.Sort
theorem E7 {ops:Array Oper} {rest:List Oper} {o:Oper} {a:Act} {Q:Exit->Act->World->Prop} (hgd:o.guard=none) (s x:Operand)
 (ho:o.op= .call { callee:= .builtin .append,args:= #[s,x],argTypes:= #[22,22] }) (W:World) (B:Nat) (v:Value) (l:List (Int×Int)) (y z:Int) (hown:dW W B v l)
 (hB:B<=W.heap.size) (hl:l.length<=8796093022000) (hs:a.eval s=v) (hx:a.eval x= .slice (some ⟨W.heap.size,0,none⟩) 1 1)
 (h:∀v' w',dW w' B v' (l++[(y,z)])->Below B W w'->wpList Tryz.prog ops Q rest (a.put o.dst v') w'):
 wpList Tryz.prog ops Q (o::rest) a (W.alloc (.cells #[.int .i64 y,.int .i64 z] 38)):=by
 obtain⟨i0,hi,hz0,hz1,hz2⟩:=info_parts Tryz.vA;have hb0:Below B W (W.alloc (.cells #[.int .i64 y,.int .i64 z] 38)):=(aae _ _).alloc hB _;refine wpList_append_own _ hgd s x 22 ho B 38 i0 (.agg #[.int .i64 0,.int .i64 0]) 2 16 Tryz.underlying22 hi hz0 hz1 hz2 rfl (by decide) _ _ _ hs (adD hown _) ⟨W.heap.size,0,none⟩ 1 1 [.int .i64 y,.int .i64 z] hx rfl (wU _ _ rfl _ _ _) (by simp[Value.oneCell']) (by unfold maxLen;omega) (by omega) (by simp;omega) ?_;intro v' w' hown' hg _;have ho':dW w' B v' (l++[(y,z)]):=by
  unfold dW;rw[mS,abZ];exact hown'
 exact h v' w' ho' (hb0.grown hg (by simp;omega) (fun b hb=>(acj hown b hb).1))
end
end Go.Proofs.YtbhdibflpjhpaaaGreat
