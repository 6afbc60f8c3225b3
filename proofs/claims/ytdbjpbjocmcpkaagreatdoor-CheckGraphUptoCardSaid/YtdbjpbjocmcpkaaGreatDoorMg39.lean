import Derived.Test.YtdbjpbjocmcpkaaGreatDoorMg38
import Derived.Lib.SlBytesConst
import Derived.Test.YtdbjpbjocmcpkaaGreatDoorMg34
import Derived.Test.YtdbjpbjocmcpkaaGreatDoorMg35
set_option maxHeartbeats 4000000
set_option maxRecDepth 100000
namespace Go.Proofs.YtdbjpbjocmcpkaaGreatDoor
section
open Go.Proofs.Tryz
open Go.RowKit Go.Sort
namespace Ck
def ra:List (List Int):=[[1,2,3],[0,3,2],[0,1,3],[0,2,1]]
def rb:List (List Int):=[[1,2,3],[0,2,3],[0,1,3],[0,1,2]]
def ec:List (Int×Int):=[(0,1),(0,4)]
def gd:Nat->Int:=fun i=>[49,32,49,10,48,32,49,10].getD i 0
theorem Xb:∃x,Pa.raw gd 8= .error x:=⟨_,rfl⟩
theorem ZQ:Si.Val (4:Nat) e4:=by
 refine⟨by decide,by decide,by decide,fun j p hj=> ?_,fun j p q hp hq=> ?_⟩
 .match j,hj with
  |0,hj=>cases hj;unfold Si.ok;decide
  |1,hj=>cases hj;unfold Si.ok;decide
  |2,hj=>cases hj;unfold Si.ok;decide
  |3,hj=>cases hj;unfold Si.ok;decide
  |4,hj=>cases hj;unfold Si.ok;decide
  |5,hj=>cases hj;unfold Si.ok;decide
 .match j,hp,hq with
  |0,hp,hq=>cases hp;cases hq;unfold Si.lt;decide
  |1,hp,hq=>cases hp;cases hq;unfold Si.lt;decide
  |2,hp,hq=>cases hp;cases hq;unfold Si.lt;decide
  |3,hp,hq=>cases hp;cases hq;unfold Si.lt;decide
  |4,hp,hq=>cases hp;cases hq;unfold Si.lt;decide
theorem Aa:Si.valid (4:Int) e4=true:=Si.aK.2 ZQ
theorem JL {ar:List (List Int)} (h:∀l∈ar,∀x∈l,(0<=x/\x<=999999999)/\l.headD 0<=x) (hl:ar.length<=1048576):Ce.good ⟨true,ar,[]⟩:=by
 unfold Ce.good;rw[if_pos rfl];exact⟨rfl,fun l h1 x h2=>h l h1 x h2,hl⟩
theorem Xj:may ⟨true,ra,[]⟩=true:=qA ⟨JL (by decide) (by decide),by decide +kernel⟩
theorem Xi:may ⟨true,rb,[]⟩=true:=qA ⟨JL (by decide) (by decide),by decide +kernel⟩
theorem Xh:may ⟨false,[],ec⟩=true:=qA ⟨by
 unfold Ce.good;rw[if_neg (fun h=>by cases h)];refine⟨rfl,⟨by unfold ec Ce.dH;decide,fun i p q hp hq=> ?_⟩,by decide⟩
 match i,hp,hq with
 |0,hp,hq=>cases hp;cases hq;decide,by decide +kernel⟩
theorem sk {hs:List (List Int)} (h:hs.length=4):Ro.check (4:Int) e4 hs=Ro.fU e4 0 hs:=by
 unfold Ro.check;rw[if_pos Aa,if_neg (by rw[h];decide)]
theorem Vj:code 4 e4 ⟨true,ra,[]⟩=0:=by
 rw[qT Aa Xj rfl,sk (by decide),if_neg (by decide),if_pos (by decide)]
theorem Vi:code 4 e4 ⟨true,rb,[]⟩=183:=by
 rw[qT Aa Xi rfl,sk (by decide),if_neg (by decide),if_neg (by decide)]
theorem Vh:code 4 e4 ⟨false,[],ec⟩=184:=by
 rw[wC Aa Xh rfl,if_pos (fun h=>absurd (h (0,4) (by decide)) (by decide))]
theorem SJ (ar:List (List Int)) (h:∀l∈ar,l.length<=3) (hl:ar.length<=4):Ce.vg ⟨true,ar,[]⟩:=⟨by show ar.length<=_;omega,by show 0<=_;omega,fun l h1=>aaD (h l h1) (by omega)⟩
end Ck
theorem IP (w:World) (k:Nat) (hk:w.heap.size=k) (zs:List Int) (f:Nat×Nat) (hz:∀z∈zs,0<=z/\z<=255):
 aY (w.alloc (.cells (zs.map (Value.int .u8)).toArray 5 f)) (some ⟨k,0,none⟩) zs.length (fun i=>zs.getD i 0):=fun i hi=>by
 subst hk;refine⟨?_,_,_,rfl,?_⟩
 .refine hz _ ?_
  show zs.getD i 0∈zs;rw[aao,aac hi];simp
 .rw[abI,cell_of_row _ _ i _ _ _ (heap_alloc_new w _)]
  simp[hi]
theorem bA.lists {w:World} {xo:Option Addr} {ls:List (List Int)} (h:bA w xo ls):Ce.fC w xo ls:=fun v l hl=>by
 obtain⟨b,o,A,C,e,hc,hL,-⟩:=h v l hl;exact⟨b,o,A,C,e,hc,hL.2⟩
theorem IQ (w:World) (a b c d:List Int) (ha:a.length=3) (hb:b.length=3) (hc:c.length=3) (hd:d.length=3):
 ∀W,W=((((w.alloc (.cells (a.map (Value.int .i64)).toArray 3)).alloc (.cells (b.map (Value.int .i64)).toArray 3)).alloc (.cells (c.map (Value.int .i64)).toArray 3)).alloc (.cells (d.map (Value.int .i64)).toArray 3)).alloc (.cells #[.slice (some ⟨w.heap.size,0,none⟩) 3 3,.slice (some ⟨w.heap.size+1,0,none⟩) 3 3,.slice (some ⟨w.heap.size+1+1,0,none⟩) 3 3,.slice (some ⟨w.heap.size+1+1+1,0,none⟩) 3 3] 55)->
  bA W (some ⟨w.heap.size+1+1+1+1,0,none⟩) [a,b,c,d]/\Below w.heap.size w W:=by
 rintro W rfl;obtain⟨w1,e1⟩:∃w1,w1=w.alloc (.cells (a.map (Value.int .i64)).toArray 3):=⟨_,rfl⟩;obtain⟨w2,e2⟩:∃w2,w2=w1.alloc (.cells (b.map (Value.int .i64)).toArray 3):=⟨_,rfl⟩;obtain⟨w3,e3⟩:∃w3,w3=w2.alloc (.cells (c.map (Value.int .i64)).toArray 3):=⟨_,rfl⟩;obtain⟨w4,e4⟩:∃w4,w4=w3.alloc (.cells (d.map (Value.int .i64)).toArray 3):=⟨_,rfl⟩;rw[<-e1,<-e2,<-e3,<-e4];have s1:w1.heap.size=w.heap.size+1:=by rw[e1];simp
 have s2:w2.heap.size=w.heap.size+1+1:=by rw[e2,abk,s1]
 have s3:w3.heap.size=w.heap.size+1+1+1:=by rw[e3,abk,s2]
 have s4:w4.heap.size=w.heap.size+1+1+1+1:=by rw[e4,abk,s3]
 have b1:Below w.heap.size w w1:=by rw[e1];exact(aae _ _).alloc (aad _) _
 have b2:Below w1.heap.size w1 w2:=by rw[e2];exact(aae _ _).alloc (aad _) _
 have b3:Below w2.heap.size w2 w3:=by rw[e3];exact(aae _ _).alloc (aad _) _
 have b4:Below w3.heap.size w3 w4:=by rw[e4];exact(aae _ _).alloc (aad _) _
 have h0:ak w1 w.heap.size a:=by rw[e1];exact heap_alloc_new w _
 have h1:ak w2 (w.heap.size+1) b:=by rw[e2,<-s1];exact heap_alloc_new w1 _
 have h2:ak w3 (w.heap.size+1+1) c:=by rw[e3,<-s2];exact heap_alloc_new w2 _
 have h3:ak w4 (w.heap.size+1+1+1) d:=by rw[e4,<-s3];exact heap_alloc_new w3 _
 obtain⟨W,hW⟩:∃W,W=w4.alloc (.cells #[.slice (some ⟨w.heap.size,0,none⟩) 3 3,.slice (some ⟨w.heap.size+1,0,none⟩) 3 3,.slice (some ⟨w.heap.size+1+1,0,none⟩) 3 3,.slice (some ⟨w.heap.size+1+1+1,0,none⟩) 3 3] 55):=⟨_,rfl⟩;rw[<-hW];have b5:Below w4.heap.size w4 W:=by rw[hW];exact(aae _ _).alloc (aad _) _
 have h4:W.heap[w.heap.size+1+1+1+1]? =some (.cells #[.slice (some ⟨w.heap.size,0,none⟩) 3 3,.slice (some ⟨w.heap.size+1,0,none⟩) 3 3,.slice (some ⟨w.heap.size+1+1,0,none⟩) 3 3,.slice (some ⟨w.heap.size+1+1+1,0,none⟩) 3 3] 55 (0,0)):=by rw[hW,<-s4];exact heap_alloc_new w4 _
 have g3:ak W (w.heap.size+1+1+1) d:=(b5.block _ (by omega)).trans h3;have b45:=b4.trans (b5.mono b4.size);have g2:ak W (w.heap.size+1+1) c:=(b45.block _ (by omega)).trans h2;have Wo:=b3.trans (b45.mono b3.size);have g1:ak W (w.heap.size+1) b:=(Wo.block _ (by omega)).trans h1;have b25:=b2.trans (Wo.mono b2.size);have g0:ak W w.heap.size a:=(b25.block _ (by omega)).trans h0;refine⟨?_,b1.trans (b25.mono b1.size)⟩;intro v l hl
 match v,hl with
 |0,hl=>cases hl;rw[ha];exact⟨_,0,_,_,rfl,by simp[World.cell?,h4],ha▸g0.sD rfl,by omega,aad _,by omega⟩
 |1,hl=>cases hl;rw[hb];exact⟨_,0,_,_,rfl,by simp[World.cell?,h4],hb▸g1.sD rfl,by omega,aad _,by omega⟩
 |2,hl=>cases hl;rw[hc];exact⟨_,0,_,_,rfl,by simp[World.cell?,h4],hc▸g2.sD rfl,by omega,aad _,by omega⟩
 |3,hl=>cases hl;rw[hd];exact⟨_,0,_,_,rfl,by simp[World.cell?,h4],hd▸g3.sD rfl,by omega,aad _,by omega⟩
theorem Fl (w:World) (ht:kO w):Calls prog 9 #[] w fun e w'=>e= .returned (.bool true)/\Below w.heap.size w w':=by
 have kc:=fun (w:World) (C:Array Value) (n c:Nat)=>Lib.run_convert_bytes_const (P:=prog) w 35 5 C n c Tryz.underlying35 Tryz.underlying5
 have pG:=ζ (eZ ht)
 have Zu:Hid (∀(ar:List (List Int)) (k:Int) (X V:World) (b p:Nat) (pc:Nat),Below w.heap.size w X->Below X.heap.size X V->ah X (some ⟨b,0,none⟩) Ck.e4->bA V (some ⟨p,0,none⟩) ar->(∀l∈ar,l.length<=3)->ar.length=4->Ck.code 4 Ck.e4 ⟨true,ar,[]⟩=k->
  Calls prog 10 #[.agg #[.int .i64 4,.slice (some ⟨b,0,none⟩) 6 6],.agg #[.bool true,.slice (some ⟨p,0,none⟩) 4 pc,.slice none 0 0]] V fun e w'=>e= .returned (.int .i64 k)/\Below V.heap.size V w'):=fun ar k X V b p pc hX hV he hr h3 h4 hk=>by
  subst hk;have hs:Ce.iD V (.agg #[.bool true,.slice (some ⟨p,0,none⟩) 4 pc,.slice none 0 0]) ⟨true,ar,[]⟩ (some ⟨p,0,none⟩) none pc 0:=⟨by rw[h4];rfl,hr.lists,fun j p hj=>by simp at hj⟩;exact oT 4 (some ⟨b,0,none⟩) 6 Ck.e4 ⟨true,ar,[]⟩ _ _ _ _ _ V (he.later hV) (by decide) hs (Ck.SJ ar h3 (by omega)) hr (pG.out _ (hX.trans (hV.mono hX.size)))
 clear ht;go_enter func9,ntmps9;go_wp2_with (go_at_call 28;refine(qN w).mono ?_;rintro e w1 ⟨b1,rfl,dL,hb1⟩;refine aaj ?_);refine ζ ?_;have yj:=ζ dL;have aI:=ζ hb1;clear dL hb1;have mh:=IQ w1 [1,2,3] [0,3,2] [0,1,3] [0,2,1] rfl rfl rfl rfl _ rfl;have oq:=ζ mh;clear mh;go_wp2_with (go_at_call 10;refine(Zu.out Ck.ra 0 w1 _ b1 _ 4 aI.out oq.out.2 yj.out oq.out.1 (by decide) rfl Ck.Vj).mono ?_;rintro e w2 ⟨rfl,hb2⟩;have aB:=ζ (aI.out.trans ((oq.out.2.trans (hb2.mono oq.out.2.size)).mono aI.out.size));clear hb2;refine aaj ?_);refine ζ ?_;clear oq yj aI;go_wp2_with (go_at_call 28;refine(qN w2).mono ?_;rintro e w3 ⟨b3,rfl,he3,hb3⟩;refine aaj ?_);refine ζ ?_;have HE3:=ζ he3;have aJ:=ζ (aB.out.trans (hb3.mono aB.out.size));clear he3 hb3;have hl3:=IQ w3 [1,2,3] [0,2,3] [0,1,3] [0,1,2] rfl rfl rfl rfl _ rfl;have uW:=ζ hl3;clear hl3;go_wp2_with (go_at_call 10;refine(Zu.out Ck.rb 183 w3 _ b3 _ 4 aJ.out uW.out.2 HE3.out uW.out.1 (by decide) rfl Ck.Vi).mono ?_;rintro e w4 ⟨rfl,hb4⟩;have dy:=ζ (aJ.out.trans ((uW.out.2.trans (hb4.mono uW.out.2.size)).mono aJ.out.size));clear hb4;refine aaj ?_);refine ζ ?_;clear uW HE3 aJ Zu;go_wp2_with (go_at_call 28;refine(qN w4).mono ?_;rintro e w5 ⟨b5,rfl,he5,hb5⟩;refine aaj ?_);refine ζ ?_;have HE5:=ζ he5;have fJ:=ζ (dy.out.trans (hb5.mono dy.out.size));clear he5 hb5;have hbl:Below w5.heap.size w5 (w5.alloc (.cells #[.int .i64 0,.int .i64 1,.int .i64 0,.int .i64 4] 66)):=(aae _ _).alloc (aad _) _;have Jz:ah (w5.alloc (.cells #[.int .i64 0,.int .i64 1,.int .i64 0,.int .i64 4] 66)) (some ⟨w5.heap.size,0,none⟩) Ck.ec:=pP.at (heap_alloc_new w5 (.cells (gF Ck.ec).toArray 66));have YG:=oT 4 (some ⟨b5,0,none⟩) 6 Ck.e4 ⟨false,[],Ck.ec⟩ (.agg #[.bool false,.slice none 0 0,.slice (some ⟨w5.heap.size,0,none⟩) 2 2]) none (some ⟨w5.heap.size,0,none⟩) 0 2 _ (HE5.out.later hbl) (by decide) ⟨rfl,fun k l hl=>by simp at hl,Jz⟩ ⟨by show 0<=_;omega,by show 2<=_;omega,fun l hl=>by simp at hl⟩ (fun v l hl=>by simp at hl) (pG.out _ (fJ.out.trans (hbl.mono fJ.out.size)));rw[Ck.Vh] at YG;have HG5:=ζ YG;have Ee:=ζ hbl;clear hbl Jz YG;go_wp2_with (go_at_call 10;refine HG5.out.mono ?_;rintro e w6 ⟨rfl,pX⟩;have ot:=ζ (fJ.out.trans ((Ee.out.trans (pX.mono Ee.out.size)).mono fJ.out.size));clear pX;refine aaj ?_);refine ζ ?_;clear HG5 Ee HE5 fJ;obtain⟨x,hx⟩:=Ck.Xb;have hbl:Below w6.heap.size w6 (w6.alloc (.cells #[.int .u8 49,.int .u8 32,.int .u8 49,.int .u8 10,.int .u8 48,.int .u8 32,.int .u8 49,.int .u8 10] 5 (8,9))):=(aae _ _).alloc (aad _) _;have hG6:=GM (ca:=8) (bo:=none) (m:=0) (cb:=0) (IP w6 _ rfl [49,32,49,10,48,32,49,10] (8,9) (by decide)) (by intro x hx;cases hx;simp) (by decide) (by decide) hx;have HG6:=ζ hG6;have Ee:=ζ hbl;clear hbl hG6 hx;go_wp2_with (go_at_call 14;refine HG6.out.mono ?_;rintro e w7 ⟨rfl,zP⟩;have z8:=ζ (ot.out.trans ((Ee.out.trans (zP.mono Ee.out.size)).mono ot.out.size));clear zP;refine aaj ?_);refine ζ ?_;go_wp2;go_ret;exact⟨rfl,z8.out⟩
end
section
open Go.RowKit Go.Sort
theorem Hh.ad3 {w:World} {B:Nat} {v:Value} {c:Ce.Cert} (h:Hh w B v c) (hs:∀l∈c.ar,l.length<=17592186043904):∃ao eo ca ce,Ce.iD w v c ao eo ca ce/\bA w ao c.ar:=by
 obtain⟨va,ve,vs,rfl,hr,ho⟩:=h;obtain⟨yo,yc,rfl,hrw,-⟩:=hr.rws hs;obtain⟨eo,ec,rfl,-,-,he,-⟩:=ho.form
 exact⟨yo,eo,yc,ec,⟨rfl,hrw.lists,he⟩,hrw⟩
end
section
open Go.RowKit
namespace Ce
theorem zj:∀ls:List (List Int),(∀l∈ls,∀x∈l,dH x)->(ls.flatMap bU).length<=10*(ls.map fun l=>l.length+1).sum
 |[],_=>by simp
 |l::r,h=>by
  have h1:=zj r (fun l hl=>h l (by simp[hl]));have h2:=nP l (h l (by simp));rw[ad5,aar,ab7,ac3];omega
theorem zk:∀es:List (Int×Int),(∀p∈es,dH p.1/\dH p.2)->(es.flatMap gZ).length<=21*es.length
 |[],_=>by simp
 |p::r,h=>by
  have h1:=zk r (fun p hp=>h p (by simp[hp]));have h2:=h p (by simp);have h3:=nP [p.1,p.2] (fun x hx=>by
   simp at hx;rcases hx with rfl|rfl
   .exact h2.1
   .exact h2.2)
  rw[<-uD] at h3;rw[ad5,aar,abl];simp at h3;omega
end Ce
theorem dG.txt {w:World} {pl:Bool} {ao eo:Option Addr} {ce:Nat} {ls:List (List Int)} {es:List (Int×Int)} (h:dG w pl ao ls eo ce es) (hg:Ce.good ⟨pl,ls,es⟩):(Ce.eA ⟨pl,ls,es⟩).length<=30000000:=by
 have hs:=h.sum;have hl:=Hv ls;unfold Ce.good at hg;cases pl with
 |true=>
  rw[if_pos rfl] at hg;obtain⟨h1,h2,h3⟩:=hg;dsimp only at h1 h2 h3;have hb:=Ce.zj ls (fun l hl x hx=>(h2 l hl x hx).1);have hd:=Ce.kZ (x:=(ls.length:Int)) ⟨by omega,by omega⟩;have e:(Ce.eA ⟨true,ls,es⟩).length=2+((Ce.dg (ls.length:Int)).length+((ls.flatMap Ce.bU).length+1)):=by
   unfold Ce.eA Ce.Cw Ce.uM;simp;omega
  omega
 |false=>
  rw[if_neg (by simp)] at hg;obtain⟨h1,h2,h3⟩:=hg;dsimp only at h1 h2 h3;have hb:=Ce.zk es (fun p hp=>⟨(h2.1 p hp).1,(h2.1 p hp).2.1⟩);have hd:=Ce.kZ (x:=(es.length:Int)) ⟨by omega,by omega⟩;have e:(Ce.eA ⟨false,ls,es⟩).length=2+((Ce.dg (es.length:Int)).length+((es.flatMap Ce.gZ).length+1)):=by
   unfold Ce.eA Ce.Cw Ce.uM;simp;omega
  omega
theorem dG.row {w:World} {pl:Bool} {ao eo:Option Addr} {ce:Nat} {ls:List (List Int)} {es:List (Int×Int)} (h:dG w pl ao ls eo ce es):∀l∈ls,l.length<=1048576:=fun l hl=>by
 have:=Hu hl;have:=h.sum;omega
theorem dG.num {w:World} {pl:Bool} {ao eo:Option Addr} {ce:Nat} {ls:List (List Int)} {es:List (Int×Int)} (h:dG w pl ao ls eo ce es):ls.length<=1048576/\es.length<=1048576:=by
 have:=Hv ls;have:=h.sum;omega
theorem dG.fits {w:World} {pl:Bool} {ao eo:Option Addr} {ce:Nat} {ls:List (List Int)} {es:List (Int×Int)} (h:dG w pl ao ls eo ce es):Ce.Fits ⟨pl,ls,es⟩:=
 ⟨aaD h.num.1 (by omega),aaD h.num.2 (by omega),fun l hl=>aaD (h.row l hl) (by omega),fun hg=>aaD (h.txt hg) (by omega)⟩
theorem dG.YL {w:World} {pl:Bool} {ao eo:Option Addr} {ce:Nat} {ls:List (List Int)} {es:List (Int×Int)} (h:dG w pl ao ls eo ce es):Ce.vg ⟨pl,ls,es⟩:=
 ⟨aaD h.num.1 (by omega),aaD h.num.2 (by omega),fun l hl=>aaD (h.row l hl) (by omega)⟩
theorem dG.sees {w:World} {pl:Bool} {ao eo:Option Addr} {ca ce:Nat} {ls:List (List Int)} {es:List (Int×Int)} (h:dG w pl ao ls eo ce es):Ce.iD w (.agg #[.bool pl,.slice ao ls.length ca,.slice eo es.length ce]) ⟨pl,ls,es⟩ ao eo ca ce:=⟨rfl,h.ar.lists,h.ed⟩
theorem dG.copy {w:World} {pl:Bool} {ao eo:Option Addr} {ca ce:Nat} {ls:List (List Int)} {es:List (Int×Int)} (h:dG w pl ao ls eo ce es):
 Calls Tryz.prog 12 #[.agg #[.bool pl,.slice ao ls.length ca,.slice eo es.length ce]] w fun e w'=>Below w.heap.size w w'/\∃v,e= .returned v/\Hh w' w.heap.size v ⟨pl,ls,es⟩:=
 FK h.ar h.ed h.nil (aaD h.num.1 (by omega)) (aaD h.num.2 (by omega))
end
section
open Go.Proofs.Tryz
open Go.RowKit Go.Sort
structure l9 (n:Int) (ao:Option Addr) (ca:Nat) (es:List (Int×Int)) (b:Bool) (ar:List (List Int)) (xs:List (Int×Int)) (xo eo:Option Addr) (xc ec:Nat) (w V:World):Prop where
 low:Below w.heap.size w V
 g:V.heap[w.heap.size]? =some (.cells #[.int .i64 n,.slice ao es.length ca] 24 (0,0))
 c:V.heap[w.heap.size+1]? =some (.cells #[.bool b,.slice xo ar.length xc,.slice eo xs.length ec] 27 (0,0))
section
variable {n:Int} {ao:Option Addr} {ca:Nat} {es:List (Int×Int)} {b:Bool} {ar:List (List Int)} {xs:List (Int×Int)} {xo eo:Option Addr} {xc ec:Nat} {w V V':World}
theorem l9.later (h:l9 n ao ca es b ar xs xo eo xc ec w V) (hb:Below V.heap.size V V'):l9 n ao ca es b ar xs xo eo xc ec w V':=⟨h.low.trans (hb.mono h.low.size),(hb.block _ (lt_of_block h.g)).trans h.g,(hb.block _ (lt_of_block h.c)).trans h.c⟩
theorem l9.start:l9 n ao ca es b ar xs xo eo xc ec w ((w.alloc (.cells #[.int .i64 n,.slice ao es.length ca] 24)).alloc (.cells #[.bool b,.slice xo ar.length xc,.slice eo xs.length ec] 27)):=by
 refine⟨((aae _ _).alloc (aad _) _).alloc (by simp) _,?_,?_⟩
 .rw[aaF _ _ _ (by simp)]
  exact heap_alloc_new w _
 .have:=heap_alloc_new (w.alloc (.cells #[.int .i64 n,.slice ao es.length ca] 24)) (.cells #[.bool b,.slice xo ar.length xc,.slice eo xs.length ec] 27)
  rwa[abk] at this
theorem l9.all (h:l9 n ao ca es b ar xs xo eo xc ec w V):V.cell? ⟨w.heap.size,0,none⟩=some (.int .i64 n)/\V.cell? ⟨w.heap.size,1,none⟩=some (.slice ao es.length ca)/\V.cell? ⟨w.heap.size+1,0,none⟩=some (.bool b)/\V.cell? ⟨w.heap.size+1,1,none⟩=some (.slice xo ar.length xc)/\V.cell? ⟨w.heap.size+1,2,none⟩=some (.slice eo xs.length ec)/\w.heap.size+1<V.heap.size:=by
 obtain⟨g0,g1,-⟩:=af h.g;obtain⟨c0,c1,c2,-⟩:=bw h.c;exact⟨g0,g1,c0,c1,c2,lt_of_block h.c⟩
end
namespace Ck
theorem EA {c:Ce.Cert} {e:Ending} (h:sr c e):∃s z,e= .returned (.tuple #[.string s,.int .i64 z])/\(z=0->may c=true)/\(z≠0->may c=false):=by
 by_cases hg:Ce.good c
 .rcases h.2 hg with ⟨h1,rfl⟩|⟨h1,rfl⟩
  .exact⟨_,_,rfl,fun h=>absurd h (by decide),fun _=>Ac (fun h=>by omega)⟩
  .exact⟨_,_,rfl,fun _=>qA ⟨hg,h1⟩,fun h=>absurd rfl h⟩
 .rw[h.1 hg]
  exact⟨_,_,rfl,fun h=>absurd h (by decide),fun _=>Ac (fun h=>hg h.1)⟩
theorem SK {n:Int} {es:List (Int×Int)} {x:Int×Int} {r:Int} (h:Si.Oc n es x r):(0<=r->x∈es)/\(r<0->Si.Val n es->x∉es):=by
 rcases h with ⟨k,-,hk,rfl⟩|⟨rfl,h⟩
 .exact⟨fun _=>aai hk,fun h=>by omega⟩
 .refine⟨fun h=>by omega,fun _ hv hx=>h ⟨hv,?_⟩⟩
  obtain⟨j,hj⟩:=aaS hx;exact⟨j,hj⟩
end Ck
theorem Dh (n:Int) (ao:Option Addr) (ca:Nat) (es:List (Int×Int)) (ar:List (List Int)) (xs:List (Int×Int)) (xo eo:Option Addr) (xc ec:Nat) (w:World) (he:ah w ao es) (hl:es.length<=4611686018427387904) (hs:Ce.iD w (.agg #[.bool true,.slice xo ar.length xc,.slice eo xs.length ec]) ⟨true,ar,xs⟩ xo eo xc ec) (hf:Ce.Fits ⟨true,ar,xs⟩) (hx:bA w xo ar):
 Calls prog 13 #[.agg #[.int .i64 n,.slice ao es.length ca],.agg #[.bool true,.slice xo ar.length xc,.slice eo xs.length ec]] w fun e w'=>e= .returned (.int .i64 (Ck.code n es ⟨true,ar,xs⟩))/\Below w.heap.size w w':=by
 obtain⟨W,hW⟩:∃W,W=(w.alloc (.cells #[.int .i64 n,.slice ao es.length ca] 24)).alloc (.cells #[.bool true,.slice xo ar.length xc,.slice eo xs.length ec] 27):=⟨_,rfl⟩;have ck:l9 n ao ca es true ar xs xo eo xc ec w W:=by rw[hW];exact l9.start
 have HE:Hid (∀V,Below w.heap.size w V->ah V ao es):=fun V h=>he.later h
 have wM:Hid (∀V,Below w.heap.size w V->Ce.iD V (.agg #[.bool true,.slice xo ar.length xc,.slice eo xs.length ec]) ⟨true,ar,xs⟩ xo eo xc ec):=fun V h=>hs.later h
 have ru:Hid (∀V,Below w.heap.size w V->bA V xo ar):=fun V h=>hx.later h
 have DZ:=ζ hx.small;have HF:=ζ hf;have HW:=ζ hW;have iI:=ζ ck;obtain⟨g0,g1,c0,c1,c2,hlt⟩:=ck.all;have cS:=ζ (eW n ao ca es W (HE.out _ ck.low) hl);have oM:=hf.es;dsimp only at oM;unfold az at cS;clear he hs hf hx hW ck;cases hval:Si.valid n es with
 |false=>
  rw[hval] at cS;have dn:=ζ (Ck.rZ (c:=⟨true,ar,xs⟩) hval);clear hval;go_enter func13,ntmps13
  go_upto_region 1 with fail
  rw[<-HW.out];go_wp2_with (go_at_call 25;refine cS.out.mono ?_;rintro e w1 ⟨rfl,hb1⟩;have aI:=ζ (iI.out.later hb1).low;clear hb1 g0 g1 c0 c1 c2 hlt;refine aaj ?_);refine ζ ?_;go_wp2;go_ret;exact⟨by rw[dn.out];rfl,aI.out⟩
 |true=>
  rw[hval] at cS;have wL:=ζ hval;clear hval;go_enter func13,ntmps13
  go_upto_region 1 with fail
  rw[<-HW.out];go_wp2_with (go_at_call 25;refine cS.out.mono ?_;rintro e w1 ⟨rfl,hb1⟩;have aI:=ζ (iI.out.later hb1);clear hb1 g0 g1 c0 c1 c2 hlt;refine aaj ?_);refine ζ ?_;obtain⟨g0,g1,c0,c1,c2,hlt⟩:=aI.out.all;have Y8:=ζ (tB (wM.out _ aI.out.low) HF.out);go_wp2_with (go_at_call 30;refine Y8.out.mono ?_;refine aaj ?_);refine ζ ?_;rintro e w2 ⟨Jn,hb2⟩;obtain⟨s,z,rfl,hz⟩:=Ck.EA Jn;have aB:=ζ (aI.out.later hb2);have HZ:=ζ hz;clear Jn hb2 hz g0 g1 c0 c1 c2 hlt;obtain⟨g0,g1,c0,c1,c2,hlt⟩:=aB.out.all;by_cases hz0:z=0
  .have iN:(z != 0)=false:=by simp[hz0]
   have hmay:=HZ.out.1 hz0;have HMY:=ζ hmay;have fD:=Ck.qT (c:=⟨true,ar,xs⟩) wL.out hmay rfl;clear hz0 hmay;obtain⟨cc,hcc⟩:∃cc,(Ro.check n es (Ro.hls es 0 ar)).2=cc:=⟨_,rfl⟩;have Qm:Hid (Calls prog 31 #[.agg #[.int .i64 n,.slice ao es.length ca],.slice xo ar.length xc] w2 fun e w'=>Below w2.heap.size w2 w'/\∃ra rl rc z,e= .returned (.tuple #[.slice ra rl rc,.int .i64 z,.int .i64 cc])/\(cc=0->∃rs,ay w' w2.heap.size (.slice ra rl rc) rs (Ro.hls es 0 ar))):=(Lu n ao ca es xo xc ar w2 (HE.out _ aB.out.low) hl (ru.out _ aB.out.low)).mono fun e w' h=>h.one hcc
   have sP:=ζ hcc;have TN:=ζ fD;clear hcc fD;go_wp2_with (go_at_call 31;refine Qm.out.mono ?_;rintro e w3 ⟨hb3,ra,rl,rc,y,rfl,hr3⟩;have aJ:=ζ (aB.out.later hb3);have jH:=ζ hr3;clear hb3 hr3 g0 g1 c0 c1 c2 hlt;refine aaj ?_);refine ζ ?_;obtain⟨g0,g1,c0,c1,c2,hlt⟩:=aJ.out.all;by_cases hc0:cc=0
   .have Yl:(cc != 0)=false:=by simp[hc0]
    obtain⟨rs,Rw⟩:=jH.out hc0;obtain⟨yo,yc,e,hrw,-⟩:=Rw.rws fun l hl=>by
     obtain⟨l2,h2,e2⟩:=Ck.BI es 0 ar l hl;rw[e2];exact DZ.out l2 h2
    cases e;have wR:=ζ (FN n ao ca es ra rc (Ro.hls es 0 ar) w3 (HE.out _ aJ.out.low) hl hrw);unfold az at wR;have hck:(Ro.check n es (Ro.hls es 0 ar)).2=0:=sP.out.trans hc0;have fD:=TN.out;rw[if_neg (fun h=>h hck)] at fD;clear Rw hrw;by_cases j6:Fa.gz n.toNat es (Ro.hls es 0 ar)=0
    .have hdt:decide ((Ro.check n es (Ro.hls es 0 ar)).2=0/\Fa.gz n.toNat es (Ro.hls es 0 ar)=0)=true:=decide_eq_true ⟨hck,j6⟩
     rw[hdt] at wR;have dn:Hid (Ck.code n es ⟨true,ar,xs⟩=0):=fD.trans (if_pos j6);clear hck fD hdt j6 hc0;go_wp2_with (go_at_call 22;refine wR.out.mono ?_;rintro e w4 ⟨rfl,hb4⟩;have dy:=ζ (aJ.out.later hb4).low;clear hb4 g0 g1 c0 c1 c2 hlt;refine aaj ?_);refine ζ ?_;go_wp2;go_ret;exact⟨by rw[dn.out];rfl,dy.out⟩
    .have hdt:decide ((Ro.check n es (Ro.hls es 0 ar)).2=0/\Fa.gz n.toNat es (Ro.hls es 0 ar)=0)=false:=decide_eq_false (fun h=>j6 h.2)
     rw[hdt] at wR;have dn:Hid (Ck.code n es ⟨true,ar,xs⟩=183):=fD.trans (if_neg j6);clear hck fD hdt j6 hc0;go_wp2_with (go_at_call 22;refine wR.out.mono ?_;rintro e w4 ⟨rfl,hb4⟩;have dy:=ζ (aJ.out.later hb4).low;clear hb4 g0 g1 c0 c1 c2 hlt;refine aaj ?_);refine ζ ?_;go_wp2;go_ret;exact⟨by rw[dn.out];rfl,dy.out⟩
   .have Yl:(cc != 0)=true:=by simp[hc0]
    have dn:Hid (Ck.code n es ⟨true,ar,xs⟩=182):=TN.out.trans (if_pos (by rw[sP.out];exact hc0));have uW:=ζ aJ.out.low;clear hc0;go_wp2;go_ret;exact⟨by rw[dn.out];rfl,uW.out⟩
  .have iN:(z != 0)=true:=by simp[hz0]
   have dn:=ζ (Ck.rY wL.out (HZ.out.2 hz0));clear hz0;go_wp2;go_ret;exact⟨by rw[dn.out];rfl,aB.out.low⟩
theorem FA (n:Int) (ao:Option Addr) (ca:Nat) (es:List (Int×Int)) (ar:List (List Int)) (xs:List (Int×Int)) (xo eo:Option Addr) (xc ec:Nat) (w:World) (he:ah w ao es) (hl:es.length<=4611686018427387904) (hs:Ce.iD w (.agg #[.bool false,.slice xo ar.length xc,.slice eo xs.length ec]) ⟨false,ar,xs⟩ xo eo xc ec) (hf:Ce.Fits ⟨false,ar,xs⟩) (hx:bA w xo ar):
 Calls prog 13 #[.agg #[.int .i64 n,.slice ao es.length ca],.agg #[.bool false,.slice xo ar.length xc,.slice eo xs.length ec]] w fun e w'=>e= .returned (.int .i64 (Ck.code n es ⟨false,ar,xs⟩))/\Below w.heap.size w w':=by
 obtain⟨W,hW⟩:∃W,W=(w.alloc (.cells #[.int .i64 n,.slice ao es.length ca] 24)).alloc (.cells #[.bool false,.slice xo ar.length xc,.slice eo xs.length ec] 27):=⟨_,rfl⟩;have ck:l9 n ao ca es false ar xs xo eo xc ec w W:=by rw[hW];exact l9.start
 have HE:Hid (∀V,Below w.heap.size w V->ah V ao es):=fun V h=>he.later h
 have wM:Hid (∀V,Below w.heap.size w V->Ce.iD V (.agg #[.bool false,.slice xo ar.length xc,.slice eo xs.length ec]) ⟨false,ar,xs⟩ xo eo xc ec):=fun V h=>hs.later h
 have ru:Hid (∀V,Below w.heap.size w V->bA V xo ar):=fun V h=>hx.later h
 have DZ:=ζ hx.small;have HF:=ζ hf;have HW:=ζ hW;have iI:=ζ ck;obtain⟨g0,g1,c0,c1,c2,hlt⟩:=ck.all;have cS:=ζ (eW n ao ca es W (HE.out _ ck.low) hl);have oM:=hf.es;dsimp only at oM;unfold az at cS;clear he hs hf hx hW ck;cases hval:Si.valid n es with
 |false=>
  rw[hval] at cS;have dn:=ζ (Ck.rZ (c:=⟨false,ar,xs⟩) hval);clear hval;go_enter func13,ntmps13
  go_upto_region 1 with fail
  rw[<-HW.out];go_wp2_with (go_at_call 25;refine cS.out.mono ?_;rintro e w1 ⟨rfl,hb1⟩;have aI:=ζ (iI.out.later hb1).low;clear hb1 g0 g1 c0 c1 c2 hlt;refine aaj ?_);refine ζ ?_;go_wp2;go_ret;exact⟨by rw[dn.out];rfl,aI.out⟩
 |true=>
  rw[hval] at cS;have wL:=ζ hval;clear hval;go_enter func13,ntmps13
  go_upto_region 1 with fail
  rw[<-HW.out];go_wp2_with (go_at_call 25;refine cS.out.mono ?_;rintro e w1 ⟨rfl,hb1⟩;have aI:=ζ (iI.out.later hb1);clear hb1 g0 g1 c0 c1 c2 hlt;refine aaj ?_);refine ζ ?_;obtain⟨g0,g1,c0,c1,c2,hlt⟩:=aI.out.all;have Y8:=ζ (tB (wM.out _ aI.out.low) HF.out);go_wp2_with (go_at_call 30;refine Y8.out.mono ?_;refine aaj ?_);refine ζ ?_;rintro e w2 ⟨Jn,hb2⟩;obtain⟨s,z,rfl,hz⟩:=Ck.EA Jn;have aB:=ζ (aI.out.later hb2);have HZ:=ζ hz;clear Jn hb2 hz g0 g1 c0 c1 c2 hlt;obtain⟨g0,g1,c0,c1,c2,hlt⟩:=aB.out.all;by_cases hz0:z=0
  .have iN:(z != 0)=false:=by simp[hz0]
   have hmay:=HZ.out.1 hz0;have HMY:=ζ hmay;have fD:=Ck.wC (c:=⟨false,ar,xs⟩) wL.out hmay rfl;have hval:=Si.aK.1 wL.out;have hok:Ce.OT xs:=by
    have:=(Ck.F6 hmay).1;unfold Ce.good at this;rw[if_neg (fun h=>by cases h)] at this;exact this.2.1
   have fX:=ζ hok;have bY:=ζ hval;have TN:=ζ fD;obtain⟨m,hm⟩:∃m,xs.length=m:=⟨_,rfl⟩;have HM:=ζ hm;have hmb:m<=4611686018427387904:=by omega
   clear hz0 hmay hok hval fD;rw[hm] at c2;clear hm;go_wp2;go_loopw [12] (fun cv wr=>∃i:Nat,i<=m/\cv= .int .i64 i/\l9 n ao ca es false ar xs xo eo xc ec w wr/\∀j x,j<i->xs[j]? =some x->x∈es) (fun cv _=>m-(intOf cv).toNat)
   case atStart=>exact⟨0,aax _,rfl,aB.out,fun j x h=>by omega⟩
   case round=>
    obtain⟨i,hi,rfl,ck,hin⟩:=hrel;obtain⟨w3,rfl⟩:∃w3,w3=wr:=⟨_,rfl⟩;have aJ:=ζ ck;have yg:=ζ hin;clear ck hin g0 g1 c0 c1 c2 hlt;obtain⟨g0,g1,c0,c1,c2,hlt⟩:=aJ.out.all;rw[HM.out] at c2;by_cases Mf:i<m
    .have agV:(i:Int)<(m:Int):=by omega
     have mj:(0:Int)<=(i:Int):=by omega
     obtain⟨x,hx⟩:∃x,xs[i]? =some x:=⟨_,aac (by have:=HM.out;omega)⟩;have KC:=ζ hx;obtain⟨b,o,rfl,d0,d1⟩:=(wM.out _ aJ.out.low).es i x hx;have hbl:b<w3.heap.size:=block_lt_of_cell d0;obtain⟨x1,x2⟩:=x;dsimp only at d0 d1;have ZA:Hid (∀V,Below w3.heap.size w3 V->_):=fun V hV=>Lm n ao ca es (x1,x2) V (HE.out _ (aJ.out.low.trans (hV.mono aJ.out.low.size))) hl
     have HS:Hid (∀V,Below w3.heap.size w3 V->(V.cell? ⟨w.heap.size,0,none⟩=some (.int .i64 n)/\V.cell? ⟨w.heap.size,1,none⟩=some (.slice ao es.length ca)/\V.cell? ⟨w.heap.size+1,2,none⟩=some (.slice (some ⟨b,o,none⟩) m ec)/\V.cell? ⟨b,o+i*2,none⟩=some (.int .i64 x1)/\V.cell? ⟨b,o+i*2+1,none⟩=some (.int .i64 x2)/\Below w3.heap.size w3 V)):=fun V hV=>by
      obtain⟨k0,k1,-,-,k2,-⟩:=(aJ.out.later hV).all;rw[HM.out] at k2;exact⟨k0,k1,k2,(hV.cell (p:=⟨b,o+i*2,none⟩) hbl).trans d0,(hV.cell (p:=⟨b,o+i*2+1,none⟩) hbl).trans d1,hV⟩
     unfold az fT at ZA;have hbr:Below w3.heap.size w3 w3.drew:=(aae _ _).drew;clear hx;go_wp2_with fail
     go_region_held3 (fun V=>V.cell? ⟨w.heap.size,0,none⟩=some (.int .i64 n)/\V.cell? ⟨w.heap.size,1,none⟩=some (.slice ao es.length ca)/\V.cell? ⟨w.heap.size+1,2,none⟩=some (.slice (some ⟨b,o,none⟩) m ec)/\V.cell? ⟨b,o+i*2,none⟩=some (.int .i64 x1)/\V.cell? ⟨b,o+i*2+1,none⟩=some (.int .i64 x2)/\Below w3.heap.size w3 V)
      (exact HS.out _ (by first|assumption|exact hbr))
      ((go_at_call 32;refine(ZA.out _ (by first|assumption|exact hbr)).mono ?_;rintro e w6 ⟨⟨r,hr,rfl⟩,fP⟩;have hbz:Below w3.heap.size w3 w6:=acI (by first|assumption|exact hbr) (fP.mono (ac6 (by first|assumption|exact hbr)))))
     have ot:=ζ (aJ.out.later hbz);have Zo:=ζ (aJ.out.later hbz).low;have HFD:=ζ (Ck.SK hr);clear hbz fP hr ZA HS hbr g0 g1 c0 c1 c2 d0 d1;by_cases LZ:r<0
     .have dn:Hid (Ck.code n es ⟨false,ar,xs⟩=184):=TN.out.trans (if_pos (fun h=>HFD.out.2 LZ bY.out (h (x1,x2) (aai KC.out))))
      go_wp2;go_ret;exact⟨by rw[dn.out];rfl,Zo.out⟩
     .have KO:=ζ (HFD.out.1 (by omega))
      go_wp2;go_roundw
      case rel=>
       refine⟨i+1,by omega,by go_num,ot.out,fun j x hj hx=> ?_⟩;by_cases hji:j=i
       .subst hji
        rw[KC.out] at hx;cases hx;exact KO.out
       .exact yg.out j x (by omega) hx
      case measure=>simp[intOf];omega
    .have hd:¬((i:Int)<(m:Int)):=by omega
     have hall:∀x∈xs,x∈es:=fun x hx=>by
      obtain⟨j,hj⟩:=aaS hx;exact yg.out j x (by have:=(aah.1 hj).1;have:=HM.out;omega) hj
     have fD:=TN.out;rw[if_neg (fun h=>h hall)] at fD;have uj:Si.Val n xs:=Ck.val_sub bY.out (Ck.nI es xs 0 ((Ck.xu bY.out fX.out).2 hall));have hP:=Cm n eo ec xs w3 (wM.out _ aJ.out.low).es oM;rw[HM.out] at hP;have HP:=ζ hP;have uW:=ζ aJ.out.low;clear hall uj hP;go_wp2_with (go_at_call 33;refine HP.out.mono ?_;refine aaj ?_);refine ζ ?_;rintro e w4 ⟨a1,f1,a2,f2,rfl,-,-,hb4⟩;have dy:=ζ (uW.out.trans (hb4.mono uW.out.size));have Jj:=dy.out.size;clear hb4 g0 g1 c0 c1 c2 hlt;obtain⟨t,ht⟩:∃t,(Ku.kr n xs).2.2.2.1=t:=⟨_,rfl⟩;have Tc:=ζ ht;rw[ht];clear ht;cases t with
     |true=>
      have dn:Hid (Ck.code n es ⟨false,ar,xs⟩=0):=fD.trans (if_pos Tc.out);clear fD;go_wp2;go_ret;exact⟨by rw[dn.out];rfl,dy.out.alloc Jj _⟩
     |false=>
      have dn:Hid (Ck.code n es ⟨false,ar,xs⟩=185):=fD.trans (if_neg (by rw[Tc.out];decide));clear fD;go_wp2;go_ret;exact⟨by rw[dn.out];rfl,dy.out.alloc Jj _⟩
  .have iN:(z != 0)=true:=by simp[hz0]
   have dn:=ζ (Ck.rY wL.out (HZ.out.2 hz0));clear hz0;go_wp2;go_ret;exact⟨by rw[dn.out];rfl,aB.out.low⟩
theorem Di (n:Int) (ao:Option Addr) (ca:Nat) (es:List (Int×Int)) (c:Ce.Cert) (v:Value) (xo eo:Option Addr) (xc ec:Nat) (w:World) (he:ah w ao es) (hl:es.length<=4611686018427387904) (hs:Ce.iD w v c xo eo xc ec) (hf:Ce.Fits c) (hx:bA w xo c.ar):
 Calls prog 13 #[.agg #[.int .i64 n,.slice ao es.length ca],v] w fun e w'=>e= .returned (.int .i64 (Ck.code n es c))/\Below w.heap.size w w':=by
 have hv:=hs.val;subst hv;obtain⟨pl,ar,xs⟩:=c;cases pl
 .exact FA n ao ca es ar xs xo eo xc ec w he hl hs hf hx
 .exact Dh n ao ca es ar xs xo eo xc ec w he hl hs hf hx
end
end Go.Proofs.YtdbjpbjocmcpkaaGreatDoor
