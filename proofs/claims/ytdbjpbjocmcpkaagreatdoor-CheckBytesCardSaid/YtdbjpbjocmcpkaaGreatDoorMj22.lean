import Derived.Test.YtdbjpbjocmcpkaaGreatDoorMj19
import Derived.Test.YtdbjpbjocmcpkaaGreatDoorMj17
import Derived.Test.YtdbjpbjocmcpkaaGreatDoorMj21
set_option maxHeartbeats 8000000
set_option maxRecDepth 100000
namespace Go.Proofs.YtdbjpbjocmcpkaaGreatDoor
section
open Go.Proofs.Tryz
open Go.RowKit Go.Sort
theorem aM.gC {w:World} {B:Nat} {v:Value} {ps:List (Int×Int)} (h:aM w B v ps):∃ao cap,v= .slice ao ps.length cap/\ah w ao ps/\(∀x,ao=some x->B<=x.block/\x.block<w.heap.size):=by
 have h':=h;unfold aM at h';rcases h.2 with ⟨rfl,h0⟩|⟨g,cap,cur,rfl,hg,hh,_⟩
 .refine⟨none,0,by rw[h0],fun j p hj=> ?_,fun x h=>by cases h⟩
  rw[abY.1 h0] at hj;simp at hj
 .refine⟨_,cap,rfl,fun j p hj=>⟨g,0,rfl,?_⟩,fun x h=>by cases h;exact⟨hg,lt_of_block hh⟩⟩
  have hcl:=ab5 h' (g:=g) rfl;simp only[Pv] at hcl;have e:wB ps=gB ps:=rfl;rw[e] at hcl;obtain⟨h0,h1⟩:=mO ps j p hj;rw[abK];exact⟨hcl _ _ h0,hcl _ _ h1⟩
theorem Pa.Good.inside {s:Pa.St} (h:Pa.Good s):Si.inside s.n s.pairs=true:=Si.A6 fun _ p hj=>h.fk p (aaJ hj)
theorem Pa.Good.VT {s:Pa.St} (h:Pa.Good s):(Si.made [] s.pairs).length<=2097152:=by
 have h1:=(Si.mj s.pairs []).2;have h2:=h.few;have h3:=h.m1;simp at h1;omega
theorem Pa.Good.made {s:Pa.St} (h:Pa.Good s):Si.mk s.n s.pairs=(s.n,Si.made [] s.pairs,0):=by
 have h1:=h.VT;have h2:=h.n0;have h3:=h.n1;unfold Si.mk;rw[if_neg (by rw[h.inside];simp;omega),if_neg (by omega)]
theorem aW.Uy {w:World} {B b:Nat} {v:Value} {ps:List (Int×Int)} (h:aW w B v ps) (hb:b<B) (x y:Value):aW ((w.setCell ⟨b,0,none⟩ x).setCell ⟨b,1,none⟩ y) B v ps:=by
 refine⟨h.1,?_⟩;rcases h.2 with h|⟨g,cap,cur,e,hgB,hh,hr⟩
 .exact .inl h
 .refine .inr ⟨g,cap,cur,e,hgB,?_,hr⟩
  rw[eE (by omega)];exact hh
def Tj (r:Except (Int×Int) Pa.St) (w:World) (e:Ending) (w':World):Prop:=
 Below w.heap.size w w'/\
 ((∃x,r= .error x/\e= .returned (.tuple #[.agg #[.int .i64 0,.slice none 0 0],.agg #[.int .i64 x.1,.int .i64 x.2]]))\/
  (∃s v,r= .ok s/\e= .returned (.tuple #[.agg #[.int .i64 s.n,v],.agg #[.int .i64 0,.int .i64 0]])/\aW w' w.heap.size v (Si.made [] s.pairs)))
theorem rB (ao:Option Addr) (n cap:Nat) (g:Nat->Int) (w:World) (ht:aJ w ao n g) (hao:∀x,ao=some x->x.block<w.heap.size) (hn:n<=maxLen) (hcap:n<=cap):
 Calls prog 16 #[.slice ao n cap] w (Tj (Pa.raw g n) w):=by
 have rN:Below w.heap.size w ((w.alloc (.cells #[.int .i64 0,.slice none 0 0] 24)).alloc (.cells #[.int .i64 0,.int .i64 0] 39)):=((aaG _ _).alloc (aaF _) _).alloc (by simp) _;have LF:=Kz ao n cap g _ (ht.later rN) (fun x hx=>by have:=hao x hx;simp;omega) hn hcap;have B5:=ζ rN;have HRA:=ζ LF;have ga:((w.alloc (.cells #[.int .i64 0,.slice none 0 0] 24)).alloc (.cells #[.int .i64 0,.int .i64 0] 39)).heap[w.heap.size]? =some (.cells #[.int .i64 0,.slice none 0 0] 24 (0,0)):=by
  rw[aa0 _ _ _ (by simp)];exact heap_alloc_new w _
 have gb:((w.alloc (.cells #[.int .i64 0,.slice none 0 0] 24)).alloc (.cells #[.int .i64 0,.int .i64 0] 39)).heap[w.heap.size+1]? =some (.cells #[.int .i64 0,.int .i64 0] 39 (0,0)):=by
  have:=heap_alloc_new (w.alloc (.cells #[.int .i64 0,.slice none 0 0] 24)) (.cells #[.int .i64 0,.int .i64 0] 39);simpa using this
 have cm:=ζ ga;have o8:=ζ gb;clear ht hao rN LF ga gb;go_enter func16,ntmps16;go_wp2_with (go_at_call 34;refine HRA.out.mono ?_;refine aaI ?_);refine ζ ?_;rintro e w1 ⟨hb1,rL⟩;have pT:=(hb1.block _ (by simp;omega)).trans cm.out;have hR1:=(hb1.block _ (by simp)).trans o8.out;have pP:=lt_of_block pT;have Sr:=lt_of_block hR1;obtain⟨g0,g1,gf⟩:=af pT;obtain⟨r0,r1,rf⟩:=af hR1;have dB:=ζ pT;have jF:=ζ hR1;have aD:=ζ (B5.out.trans (hb1.mono B5.out.size));clear hb1 pT hR1;rcases rL with ⟨x,hr,rfl⟩|⟨s,v,hr,rfl,hop⟩
 .have hcx:=Pa.pF hr
  have j0:(x.1 != 0)=true:=by simpa using hcx
  have HR:=ζ hr;unfold rawVal aO;clear hr hcx;go_wp2_with fail
  go_region
  all_goals
   go_wp2
   first
    |(obtain⟨k1,k2⟩:=mR (by omega) dB.out jF.out (.int .i64 0) (.slice none 0 0) (.int .i64 x.1) (.int .i64 x.2)
      obtain⟨p0,p1,-⟩:=af k1;obtain⟨q0,q1,-⟩:=af k2;refine bodyPost_ret (v:= .tuple #[.agg #[.int .i64 0,.slice none 0 0],.agg #[.int .i64 x.1,.int .i64 x.2]]) (by simp[results,results16,go_sem,p0,p1,q0,q1,pP,Sr]) rfl ?_;exact⟨((((((aD.out.setCell (by simp) _).setCell (by simp) _).setCell (by simp) _).setCell (by simp) _).alloc (by simp;omega) _).alloc (by simp;omega) _).drew,.inl ⟨x,HR.out,rfl⟩⟩)
    |(obtain⟨k2,k1⟩:=mR (by omega) jF.out dB.out (.int .i64 x.1) (.int .i64 x.2) (.int .i64 0) (.slice none 0 0)
      obtain⟨p0,p1,-⟩:=af k1;obtain⟨q0,q1,-⟩:=af k2;refine bodyPost_ret (v:= .tuple #[.agg #[.int .i64 0,.slice none 0 0],.agg #[.int .i64 x.1,.int .i64 x.2]]) (by simp[results,results16,go_sem,p0,p1,q0,q1,pP,Sr]) rfl ?_;exact⟨((((((aD.out.setCell (by simp) _).setCell (by simp) _).setCell (by simp) _).setCell (by simp) _).alloc (by simp;omega) _).alloc (by simp;omega) _).drew,.inl ⟨x,HR.out,rfl⟩⟩)
 .have Jh:=Pa.zv hr
  obtain⟨va,vc,rfl,hea,_⟩:=hop.gC;have HR:=ζ hr;have HEA:=ζ hea;have ado:=ζ Jh;have hlen:s.pairs.length<=2097152:=by
   have h2:=Jh.few;have h3:=Jh.m1;omega
  unfold rawVal aO;dsimp only;clear hr hop hea Jh;have hb2:Below w1.heap.size w1 ((w1.alloc (.cells #[.int .i64 s.n,.slice va s.pairs.length vc] 86)).alloc (.cells #[.int .i64 0,.int .i64 0] 39)):=((aaG _ _).alloc (aaF _) _).alloc (by simp) _;have hmk:Calls prog 35 #[.int .i64 s.n,.slice va s.pairs.length vc] ((w1.alloc (.cells #[.int .i64 s.n,.slice va s.pairs.length vc] 86)).alloc (.cells #[.int .i64 0,.int .i64 0] 39)) (acC (s.n,Si.made [] s.pairs,0) ((w1.alloc (.cells #[.int .i64 s.n,.slice va s.pairs.length vc] 86)).alloc (.cells #[.int .i64 0,.int .i64 0] 39))):=by
   rw[<-ado.out.made];exact RT s.n va vc s.pairs _ (HEA.out.later hb2) (by omega)
  have Nk:=ζ hmk;have aA:=ζ hb2;clear hmk hb2;go_wp2_with (go_at_call 35;refine Nk.out.mono ?_;refine aaI ?_);refine ζ ?_;rintro e w3 ⟨v,rfl,hown,hb3⟩;dsimp only at hown ⊢;obtain⟨a3,c3,rfl,_,_,_,hx3⟩:=hown.form;have lu:Below w1.heap.size w1 w3:=aA.out.trans (hb3.mono aA.out.size);have Yv:=(lu.block _ pP).trans dB.out;have SK:=(lu.block _ Sr).trans jF.out;have hs3:w1.heap.size<=w3.heap.size:=lu.size;have aey:=lt_of_block Yv;have aex:=lt_of_block SK;clear g0 g1 gf r0 r1 rf;obtain⟨g0,g1,gf⟩:=af Yv;obtain⟨r0,r1,rf⟩:=af SK;have iC:=ζ Yv;have jl:=ζ SK;have aK:=ζ (aD.out.trans (lu.mono aD.out.size));have bK:=ζ hown;clear hb3 lu Yv SK hown hx3;go_wp2;obtain⟨k1,k2⟩:=mR (by omega) iC.out jl.out (.int .i64 s.n) (.slice a3 (Si.made [] s.pairs).length c3) (.int .i64 0) (.int .i64 0);obtain⟨p0,p1,-⟩:=af k1;obtain⟨q0,q1,-⟩:=af k2;refine bodyPost_ret (v:= .tuple #[.agg #[.int .i64 s.n,.slice a3 (Si.made [] s.pairs).length c3],.agg #[.int .i64 0,.int .i64 0]]) (by simp[results,results16,go_sem,p0,p1,q0,q1,aey,aex]) rfl ?_;refine⟨((((aK.out.setCell (by simp) _).setCell (by simp) _).setCell (by simp) _).setCell (by simp) _).alloc (by simp;omega) _,.inr ⟨s,_,HR.out,rfl,?_⟩⟩;exact((((bK.out.Uy (by simp;omega) _ _).Uy (by simp;omega) _ _).lower (by simp;omega)).alloc _)
end
section
open Go.Proofs.Tryz
open Go.RowKit Go.Sort
theorem Kv (ao:Option Addr) (n cap:Nat) (g:Nat->Int) (w:World) (ht:aJ w ao n g) (hao:∀x,ao=some x->x.block<w.heap.size) (hn:n<=maxLen) (hcap:n<=cap) {x0:Int×Int} (hx0:Pa.raw g n= .error x0):
 Calls prog 16 #[.slice ao n cap] w fun e w'=>Below w.heap.size w w'/\e= .returned (.tuple #[.agg #[.int .i64 0,.slice none 0 0],.agg #[.int .i64 x0.1,.int .i64 x0.2]]):=by
 have rN:Below w.heap.size w ((w.alloc (.cells #[.int .i64 0,.slice none 0 0] 24)).alloc (.cells #[.int .i64 0,.int .i64 0] 39)):=((aaG _ _).alloc (aaF _) _).alloc (by simp) _;have LF:=Kz ao n cap g _ (ht.later rN) (fun x hx=>by have:=hao x hx;simp;omega) hn hcap;rw[hx0] at LF;have hcx:=Pa.pF hx0;have B5:=ζ rN;have HRA:=ζ LF;have ga:((w.alloc (.cells #[.int .i64 0,.slice none 0 0] 24)).alloc (.cells #[.int .i64 0,.int .i64 0] 39)).heap[w.heap.size]? =some (.cells #[.int .i64 0,.slice none 0 0] 24 (0,0)):=by
  rw[aa0 _ _ _ (by simp)];exact heap_alloc_new w _
 have gb:((w.alloc (.cells #[.int .i64 0,.slice none 0 0] 24)).alloc (.cells #[.int .i64 0,.int .i64 0] 39)).heap[w.heap.size+1]? =some (.cells #[.int .i64 0,.int .i64 0] 39 (0,0)):=by
  have:=heap_alloc_new (w.alloc (.cells #[.int .i64 0,.slice none 0 0] 24)) (.cells #[.int .i64 0,.int .i64 0] 39);simpa using this
 have cm:=ζ ga;have o8:=ζ gb;clear ht hao rN LF ga gb hx0;go_enter func16,ntmps16;go_wp2_with (go_at_call 34;refine HRA.out.mono ?_;refine aaI ?_);refine ζ ?_;rintro e w1 ⟨hb1,rL⟩;have pT:=(hb1.block _ (by simp;omega)).trans cm.out;have hR1:=(hb1.block _ (by simp)).trans o8.out;have pP:=lt_of_block pT;have Sr:=lt_of_block hR1;obtain⟨g0,g1,gf⟩:=af pT;obtain⟨r0,r1,rf⟩:=af hR1;have dB:=ζ pT;have jF:=ζ hR1;have aD:=ζ (B5.out.trans (hb1.mono B5.out.size));clear hb1 pT hR1;rcases rL with ⟨x,hr,rfl⟩|⟨s,v,hr,rfl,hop⟩
 .cases hr
  have j0:(x0.1 != 0)=true:=by simpa using hcx
  unfold rawVal aO;clear hcx;go_wp2_with fail
  go_region
  all_goals
   go_wp2
   first
    |(obtain⟨k1,k2⟩:=mR (by omega) dB.out jF.out (.int .i64 0) (.slice none 0 0) (.int .i64 x0.1) (.int .i64 x0.2)
      obtain⟨p0,p1,-⟩:=af k1;obtain⟨q0,q1,-⟩:=af k2;refine bodyPost_ret (v:= .tuple #[.agg #[.int .i64 0,.slice none 0 0],.agg #[.int .i64 x0.1,.int .i64 x0.2]]) (by simp[results,results16,go_sem,p0,p1,q0,q1,pP,Sr]) rfl ?_;exact⟨((((((aD.out.setCell (by simp) _).setCell (by simp) _).setCell (by simp) _).setCell (by simp) _).alloc (by simp;omega) _).alloc (by simp;omega) _).drew,rfl⟩)
    |(obtain⟨k2,k1⟩:=mR (by omega) jF.out dB.out (.int .i64 x0.1) (.int .i64 x0.2) (.int .i64 0) (.slice none 0 0)
      obtain⟨p0,p1,-⟩:=af k1;obtain⟨q0,q1,-⟩:=af k2;refine bodyPost_ret (v:= .tuple #[.agg #[.int .i64 0,.slice none 0 0],.agg #[.int .i64 x0.1,.int .i64 x0.2]]) (by simp[results,results16,go_sem,p0,p1,q0,q1,pP,Sr]) rfl ?_;exact⟨((((((aD.out.setCell (by simp) _).setCell (by simp) _).setCell (by simp) _).setCell (by simp) _).alloc (by simp;omega) _).alloc (by simp;omega) _).drew,rfl⟩)
 .cases hr
def Ck.e4:List (Int×Int):=[(0,1),(0,2),(0,3),(1,2),(1,3),(2,3)]
theorem sO (w:World):Calls prog 28 #[] w fun e w'=>∃b,e= .returned (.agg #[.int .i64 4,.slice (some ⟨b,0,none⟩) 6 6])/\ah w' (some ⟨b,0,none⟩) Ck.e4/\Below w.heap.size w w':=by
 go_enter func28,ntmps28;go_wp2;refine bodyPost_ret (v:= .agg #[.int .i64 4,.slice (some ⟨w.heap.size+1,0,none⟩) 6 6]) (by simp[results,results28,go_sem]) rfl ?_;refine⟨w.heap.size+1,rfl,rz.at ?_,((aaG _ _).alloc (aaF _) _).alloc (by simp) _⟩;have:=heap_alloc_new (w.alloc (.cells #[.int .i64 4,.slice (some ⟨w.heap.size+1,0,none⟩) 6 6] 24)) (.cells (gB Ck.e4).toArray 66);rw[aa7] at this;exact this
theorem Jy {ao bo:Option Addr} {n m ca cb:Nat} {g:Nat->Int} {w:World} (hg:aJ w ao n g) (ha:∀x,ao=some x->x.block<w.heap.size/\x.spot=none) (hn:n<=maxLen) (hca:n<=ca) {x:Int×Int} (hx:Pa.raw g n= .error x):
 Calls prog 14 #[.slice ao n ca,.slice bo m cb] w fun e w'=>e= .returned (.int .i64 180)/\Below w.heap.size w w':=by
 have qh:=ζ (Kv ao n ca g w hg (fun x hx=>(ha x hx).1) hn hca hx);have hx0:(x.1 != 0)=true:=by simpa using Pa.pF hx
 clear hg ha hx;go_enter func14,ntmps14;go_wp2_with (go_at_call 16;refine qh.out.mono ?_;refine aaI ?_);refine ζ ?_;rintro e w1 ⟨hb1,rfl⟩;have aD:=ζ hb1;have hs1:=hb1.size;clear hb1;go_wp2;go_ret;exact⟨rfl,(aD.out.alloc hs1 _).alloc (by simp;omega) _⟩
end
end Go.Proofs.YtdbjpbjocmcpkaaGreatDoor
