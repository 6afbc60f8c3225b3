import Derived.Test.YtbhdibflpjhpaaaGreatMg09
set_option maxHeartbeats 8000000
set_option maxRecDepth 100000
namespace Go.Proofs.YtbhdibflpjhpaaaGreat
section
open Go.Proofs.Tryz
open Go.RowKit Go.Sort Go.Maps
theorem Tryz.KJ:(prog.info? 69).map (fun i=>(i.zero,i.size,i.bytes))=some (some (.agg #[.int .i64 0,.int .i64 0]),2,16):=by kernel_rfl
def ny (w:World) (B:Nat) (v:Value) (ps:List (Int×Int)):Prop:=w.ownsRow B 69 2 v ps.length (kU ps)
theorem ny.nil (w:World) (B:Nat):ny w B (.slice none 0 0) []:=ad6 _ _ _ _
theorem ny.form {w:World} {B:Nat} {v:Value} {es:List (Int×Int)} (h:ny w B v es):∃ao cap,v= .slice ao es.length cap/\aN w ao es/\(∀x,ao=some x->B<=x.block/\x.block<w.heap.size):=by
 have h':=h;unfold ny at h';rcases h.2 with ⟨rfl,h0⟩|⟨g,cap,cur,rfl,hg,hh,hc,hm,_⟩
 .refine⟨none,0,by rw[h0],fun j p hj=> ?_,fun x h=>by cases h⟩
  rw[ac0.1 h0] at hj;simp at hj
 .refine⟨_,cap,rfl,fun j p hj=>⟨g,0,rfl,?_⟩,fun x h=>by cases h;exact⟨hg,lt_of_block hh⟩⟩
  have hcl:=ac1 h' (g:=g) rfl;simp only[Xg] at hcl;obtain⟨h0,h1⟩:=vF es j p hj;rw[ac7];exact⟨hcl _ _ h0,hcl _ _ h1⟩
theorem vZ {ops:Array Oper} {rest:List Oper} {o:Oper} {a:Act} {Q:Exit->Act->World->Prop} (hgd:o.guard=none) (s x:Operand)
 (ho:o.op= .call { callee:= .builtin .append,args:= #[s,x],argTypes:= #[74,74] }) (W:World) (B:Nat) (v:Value) (l:List (Int×Int)) (y z:Int) (hown:ny W B v l)
 (hB:B<=W.heap.size) (hl:l.length<=8796093022000) (hs:a.eval s=v) (hx:a.eval x= .slice (some ⟨W.heap.size,0,none⟩) 1 1)
 (h:∀v' w',ny w' B v' (l++[(y,z)])->Below B W w'->wpList prog ops Q rest (a.put o.dst v') w'):
 wpList prog ops Q (o::rest) a (W.alloc (.cells #[.int .i64 y,.int .i64 z] 69)):=by
 obtain⟨i0,hi,hz0,hz1,hz2⟩:=info_parts Tryz.KJ;have hb0:Below B W (W.alloc (.cells #[.int .i64 y,.int .i64 z] 69)):=(aae _ _).alloc hB _;refine wpList_append_own _ hgd s x 74 ho B 69 i0 (.agg #[.int .i64 0,.int .i64 0]) 2 16 Tryz.underlying74 hi hz0 hz1 hz2 rfl (by decide) _ _ _ hs (adD hown _) ⟨W.heap.size,0,none⟩ 1 1 [.int .i64 y,.int .i64 z] hx rfl (wU _ _ rfl _ _ _) (by simp[Value.oneCell']) (by unfold maxLen;omega) (by omega) (by simp;omega) ?_;intro v' w' hown' hg _;have ho':ny w' B v' (l++[(y,z)]):=by
  unfold ny;rw[mS,abZ];exact hown'
 exact h v' w' ho' (hb0.grown hg (by simp;omega) (fun b hb=>(acj hown b hb).1))
namespace Ku
def vQ (L:List Int) (i:Nat):Nat->List (Int×Int)
 |0=>[]
 |j+1=>vQ L i j++[(gI L i,gI L (i+1+j))]
def eD (L:List Int):Nat->List (Int×Int)
 |0=>[]
 |i+1=>eD L i++vQ L i (L.length-(i+1))
theorem AH (L:List Int) (i j:Nat):(vQ L i j).length=j:=by
 induction j with
 |zero=>rfl
 |succ j ih=>simp[vQ,ih]
theorem ya (L:List Int) (i:Nat):(eD L i).length<=i*L.length:=by
 induction i with
 |zero=>simp[eD]
 |succ i ih=>
  unfold eD;rw[abZ,AH,Nat.succ_mul];omega
theorem pR.shape {B:Nat} {cs:List Value} {R:List (List Int)} {kd:Int} {ba:Option Addr} {bn bc:Nat} {ps:List (Int×Int)} {w w':World} {e:Ending} (h:pR B cs R kd (.slice ba bn bc) ps w e w'):∃(v1:Int) (s1:Option Addr) (s2 s3:Nat) (u1:Option Addr) (u2 u3:Nat) (r:Bool),e= .returned (.tuple #[.agg #[.int .i64 v1,.slice s1 s2 s3,.slice u1 u2 u3],.bool r]):=by
 rcases h.1 with ⟨_,h⟩|⟨_,pv,vs,h,hr,_⟩
 .exact⟨_,_,_,_,_,_,_,_,h⟩
 .obtain⟨a,c,rfl⟩:=gU hr
  exact⟨_,_,_,_,_,_,_,_,h⟩
theorem pR.far {B:Nat} {cs:List Value} {R:List (List Int)} {kd:Int} {bv:Value} {ps:List (Int×Int)} {w w1 w' V:World} {e:Ending} (h:pR B cs R kd bv ps w1 e w') (hb:Below w.heap.size w w1) {c:Nat} (hc:w.heap.size<=c/\c<w1.heap.size) (hcs:∀b,eX cs b->b<w.heap.size) (hV:∀b,b≠c->V.heap[b]? =w'.heap[b]?) (hs:V.heap.size=w'.heap.size) (h1:V.os=w'.os) (h2:V.tape=w'.tape) (h3:V.output=w'.output):pR B cs R kd bv ps w e V:=by
 obtain⟨gD,hw⟩:=h;have hw2:=((az.refl (fun b=>eX cs b) w).later hb).trans hw;refine⟨?_,h1.trans hw2.os,h2.trans hw2.tape,h3.trans hw2.output,by rw[hs];exact hw2.size,fun k hk hn=>(hV k (by omega)).trans (hw2.block k hk hn)⟩;rcases gD with gD|⟨ha,pv,vs,he,hr,ho,hin⟩
 .exact .inl gD
 .refine .inr ⟨ha,pv,vs,he,hr.kept fun b hb' _=>hV b ?_,fun b hb'=>acA hb.size (ho b hb'),hin⟩
  rcases hb' with hb'|hb'
  .have:=ho b hb'
   omega
  .have:=hcs b (hin b hb')
   omega
end Ku
theorem MJ (B:Nat) (ca:Option Addr) (J cc mb nb:Nat) (cs:List Value) (R:List (List Int)) (bo:Option Addr) (q bc:Nat) (L:List Int) (w:World)
 (hJ:R.length=J) (hBw:B<=w.heap.size) (hR:aU w B (.slice ca J cc) cs R) (hS:Ku.Small R) (oy:Ku.OM w mb nb (Ku.opn R R.length)) (hmb:¬eX cs mb) (hq:L.length=q) (BC:0<q) (DV:q<=6) (hqc:q<=bc) (hbc:bc<=9223372036854775807) (hL:bV w bo L)
 (hin:∀p∈Ku.eD L q,jl (Ku.key p)) (hd:∀(t t':Nat) (p p':Int×Int),t≠t'->(Ku.eD L q)[t]? =some p->(Ku.eD L q)[t']? =some p'->Ku.key p≠Ku.key p'):
 Calls prog 18 #[.agg #[.slice ca J cc,.map (some mb)],.slice bo q bc] w (Ku.pR B cs R 1 (.slice bo q bc) (Ku.eD L q) w):=by
 obtain⟨W1,hW1⟩:∃W1,W1=w.alloc (.cells #[.slice ca J cc,.map (some mb)] 54):=⟨_,rfl⟩;obtain⟨W,hW⟩:∃W,W=W1.alloc (.cells #[.int .i64 0,.slice none 0 0,.slice none 0 0] 30):=⟨_,rfl⟩;have hs1:W1.heap.size=w.heap.size+1:=by rw[hW1];simp
 have hB1:Below w.heap.size w W1:=by rw[hW1];exact(aae _ _).alloc (aad _) _
 have hB2:Below W1.heap.size W1 W:=by rw[hW];exact(aae _ _).alloc (aad _) _
 have jE:Below w.heap.size w W:=hB1.trans (hB2.mono hB1.size);have g1:W.heap[w.heap.size]? =some (.cells #[.slice ca J cc,.map (some mb)] 54 (0,0)):=by
  rw[hB2.block _ (by omega),hW1];exact heap_alloc_new w _
 have g2:W.heap[w.heap.size+1]? =some (.cells #[.int .i64 0,.slice none 0 0,.slice none 0 0] 30 (0,0)):=by rw[hW,<-hs1];exact heap_alloc_new W1 _
 have Zm:w.heap.size+1<W.heap.size:=lt_of_block g2;have HW:Hid (W=(w.alloc (.cells #[.slice ca J cc,.map (some mb)] 54)).alloc (.cells #[.int .i64 0,.slice none 0 0,.slice none 0 0] 30)):=by rw[hW,hW1];exact ζ rfl
 have sQ:Hid (∀b,eX cs b->b<w.heap.size):=fun b hb=>(hR.within (.inr hb)).2
 have mY:=ζ g1;have jG:=ζ g2;have fP:=ζ jE;have HL:=ζ hL;have HQ:=ζ hq;have HKU:Hid (∀(U:World) (pa:Option Addr) (pc:Nat),Below W.heap.size W U->aN U pa (Ku.eD L q)->(∀x,pa=some x->W.heap.size<=x.block)->Calls prog 30 #[.agg #[.slice ca J cc,.map (some mb)],.int .i64 1,.slice bo q bc,.slice pa (Ku.eD L q).length pc] U (Ku.pR B cs R 1 (.slice bo q bc) (Ku.eD L q) U)):=fun U pa pc hU hpa yy=>by
  have hbl:Below w.heap.size w U:=jE.trans (hU.mono jE.size);refine CC B ca J cc mb nb cs R 1 bo q bc pa _ pc (Ku.eD L q) U hJ (acA hBw hbl.size) (hR.later hbl) hS (oy.later hbl) hmb rfl ?_ hpa (fun x hx hi=> ?_) hin hd
  .have h1:=Ku.ya L q
   rw[hq] at h1;have h2:q*q<=6*6:=afR DV DV;omega
  .have h1:=yy x hx
   have h2:=sQ.out _ hi;omega
 clear hW hW1 hs1 hB1 hB2 jE g1 g2 hR hS oy hmb hq hL hin hd hJ;go_enter func18,ntmps18;go_wp2_with fail;rw[<-HW.out];go_loopw [6,13] (fun pv cv wr=>∃(i:Nat),i<=q/\cv= .int .i64 (i:Int)/\ny wr W.heap.size pv (Ku.eD L i)/\Below W.heap.size W wr) (fun _ cv _=>q-(intOf cv).toNat)
 case atStart=>exact⟨0,ab6 _,rfl,ny.nil _ _,aae _ _⟩
 case round=>
  obtain⟨i,hi,rfl,hown,hb⟩:=hrel;obtain⟨U,rfl⟩:∃U,U=wr:=⟨wr,rfl⟩;have HO:=ζ hown;have HB:=ζ hb;have hwi:IntKind.i64.wrap ((i:Int)+1)=(i:Int)+1:=by rw[acf];omega
  obtain⟨pa,pc,KW,hpat,yy⟩:=hown.form;have HPA:=ζ hpat;have HPB:=ζ yy;by_cases hlt:i<q
  .have kR:(i:Int)<(q:Int):=by omega
   have D6:(0:Int)<=(i:Int):=by omega
   obtain⟨x,hx⟩:∃x,L[i]? =some x:=⟨_,aac (by rw[HQ.out];exact hlt)⟩;obtain⟨b,o,rfl,e0⟩:=(HL.out.later (fP.out.trans (hb.mono fP.out.size))) i x hx;obtain⟨i1,hi1⟩:∃i1,i1=i+1:=⟨_,rfl⟩;obtain⟨m,hm⟩:∃m,m=q-i1:=⟨_,rfl⟩;have hwa:IntKind.i64.wrap ((i:Int)+1)=(i1:Int):=by rw[acf];omega
   have k1:(0:Int)<=(i1:Int):=by omega
   have k2:(i1:Int)<=(q:Int):=by omega
   have k3:(q:Int)<=(bc:Int):=by omega
   have k4:(i1:Int)<=(bc:Int):=by omega
   have Tu:=ζ (Ku.eY hx);have HX:=ζ hx;clear hown KW hpat yy hb hx hwi;by_cases hcap:bc=i1
   .go_wp2_with fail
    generalize hmm:q-(i+1)=mm;have HMM:=ζ hmm;have hmb:mm<=6:=by omega
    go_loopw [6,23] (fun pv cv wr=>∃(j:Nat),j<=mm/\cv= .int .i64 (j:Int)/\ny wr W.heap.size pv (Ku.eD L i++Ku.vQ L i j)/\Below W.heap.size W wr) (fun _ cv _=>mm-(intOf cv).toNat)
    case atStart=>exact⟨0,ab6 _,rfl,by rw[show Ku.vQ L i 0=[] from rfl,acH];exact HO.out,HB.out⟩
    case round=>
     obtain⟨j,hj,rfl,hown,hb⟩:=hrel;obtain⟨V,rfl⟩:∃V,V=wr:=⟨wr,rfl⟩;have Jr:=ζ hown;have cj:=ζ hb;have hs2:=hb.size;have hwj:IntKind.i64.wrap ((j:Int)+1)=(j:Int)+1:=by rw[acf];omega
     by_cases hjl:j<mm
     .exfalso
      omega
     .have hdj:¬((j:Int)<(mm:Int)):=by omega
      obtain rfl:j=mm:=by omega
      have HN:Hid (Ku.eD L (i+1)=Ku.eD L i++Ku.vQ L i j):=by
       show _=_;rw[show Ku.eD L (i+1)=Ku.eD L i++Ku.vQ L i (L.length-(i+1)) from rfl,HQ.out,HMM.out]
      have hwi:IntKind.i64.wrap ((i:Int)+1)=(i:Int)+1:=by rw[acf];omega
      clear hown hb hmm;go_wp2;go_roundw
      case rel=>exact⟨i+1,by omega,by go_num,by rw[HN.out];exact Jr.out,cj.out⟩
      case measure=>simp[intOf];omega
   .go_wp2_with fail
    generalize hmm:q-(i+1)=mm;have HMM:=ζ hmm;have hmb:mm<=6:=by omega
    go_loopw [6,23] (fun pv cv wr=>∃(j:Nat),j<=mm/\cv= .int .i64 (j:Int)/\ny wr W.heap.size pv (Ku.eD L i++Ku.vQ L i j)/\Below W.heap.size W wr) (fun _ cv _=>mm-(intOf cv).toNat)
    case atStart=>exact⟨0,ab6 _,rfl,by rw[show Ku.vQ L i 0=[] from rfl,acH];exact HO.out,HB.out⟩
    case round=>
     obtain⟨j,hj,rfl,hown,hb⟩:=hrel;obtain⟨V,rfl⟩:∃V,V=wr:=⟨wr,rfl⟩;have Jr:=ζ hown;have cj:=ζ hb;have hs2:=hb.size;have hwj:IntKind.i64.wrap ((j:Int)+1)=(j:Int)+1:=by rw[acf];omega
     by_cases hjl:j<mm
     .have agV:(j:Int)<(mm:Int):=by omega
      have hj0:(0:Int)<=(j:Int):=by omega
      obtain⟨y,hy⟩:∃y,L[i+1+j]? =some y:=⟨_,aac (by rw[HQ.out];omega)⟩;obtain⟨b',o',ee,e1⟩:=(HL.out.later (fP.out.trans (hb.mono fP.out.size))) _ y hy;cases ee;have e2:V.cell? ⟨b,o+(i+1)+j,none⟩=some (.int .i64 y):=by rw[afE o (i+1) j];exact e1
      have kD:Hid (Ku.eD L i++Ku.vQ L i (j+1)=Ku.eD L i++Ku.vQ L i j++[(x,y)]):=by
       show _=_;rw[ace]
       congr 1
       show Ku.vQ L i j++[(Ku.gI L i,Ku.gI L (i+1+j))]=_;rw[Tu.out,Ku.eY hy]
      have eO:(Ku.eD L i++Ku.vQ L i j).length<=8796093022000:=by
       rw[abZ,Ku.AH];have h1:=Ku.ya L i;rw[HQ.out] at h1;have h2:i*q<=6*6:=afR (by omega) DV;omega
      clear hown hb hy e1;go_wp2_with (at_builtin;refine vZ rfl _ _ rfl _ W.heap.size _ _ x y Jr.out hs2 eO rfl rfl ?_;refine abQ ?_);refine ζ ?_;intro v' w3 hrow3 hb3;have sJ:=ζ hrow3;have cz:=ζ (cj.out.trans hb3);clear hrow3 hb3;go_wp2;go_roundw
      case rel=>exact⟨j+1,by omega,by go_num,by rw[kD.out];first|exact sJ.out|(rw[ace];exact sJ.out),cz.out⟩
      case measure=>simp[intOf];omega
     .have hdj:¬((j:Int)<(mm:Int)):=by omega
      obtain rfl:j=mm:=by omega
      have HN:Hid (Ku.eD L (i+1)=Ku.eD L i++Ku.vQ L i j):=by
       show _=_;rw[show Ku.eD L (i+1)=Ku.eD L i++Ku.vQ L i (L.length-(i+1)) from rfl,HQ.out,HMM.out]
      have hwi:IntKind.i64.wrap ((i:Int)+1)=(i:Int)+1:=by rw[acf];omega
      clear hown hb hmm;go_wp2;go_roundw
      case rel=>exact⟨i+1,by omega,by go_num,by rw[HN.out];exact Jr.out,cj.out⟩
      case measure=>simp[intOf];omega
  .have hd:¬((i:Int)<(q:Int)):=by omega
   obtain rfl:i=q:=by omega
   have ai4:=ζ (HKU.out U pa pc hb hpat (fun x hx=>(yy x hx).1));obtain⟨c0,c1,-⟩:=aj ((hb.block _ (by omega)).trans mY.out);subst KW;clear hown hpat yy hb;go_wp2_with (go_at_call 30;refine ai4.out.mono ?_;refine abQ ?_);refine ζ ?_;intro e w3 hkp;have UX:W.heap.size<=w3.heap.size:=acA HB.out.size hkp.2.size;have Le:w3.heap[w.heap.size+1]? =some (.cells #[.int .i64 0,.slice none 0 0,.slice none 0 0] 30 (0,0)):=(hkp.2.block _ (by have:=HB.out.size;omega) (fun h=>by have:=sQ.out _ h;omega)).trans ((HB.out.block _ (by omega)).trans jG.out);obtain⟨z0,z1,z2,zf⟩:=cu Le;have hf0:=zf 0;have vW:=zf 1;have hf2:=zf 2;have hUs:=HB.out.size;have Mu:Hid (∀x y z:Value,Ku.pR B cs R 1 (.slice bo i bc) (Ku.eD L i) w e (((w3.setCell ⟨w.heap.size+1,0,none⟩ x).setCell ⟨w.heap.size+1,1,none⟩ y).setCell ⟨w.heap.size+1,2,none⟩ z)):=fun x y z=>hkp.far (fP.out.trans (HB.out.mono fP.out.size)) (c:=w.heap.size+1) ⟨by omega,by omega⟩ sQ.out (fun b hb=>by rw[heap_setCell_other _ ⟨w.heap.size+1,2,none⟩ b _ hb,heap_setCell_other _ ⟨w.heap.size+1,1,none⟩ b _ hb,heap_setCell_other _ ⟨w.heap.size+1,0,none⟩ b _ hb]) (by simp) rfl rfl rfl
   obtain⟨v1,s1,s2,s3,u1,u2,u3,r,rfl⟩:=hkp.shape;clear hkp Le zf c0 c1;go_wp2;refine bodyPost_ret (gw rfl rfl _ _ (w.heap.size+1) _ _ _ _ rfl rfl (aI z0 z1 z2 _ _ _).1 (aI z0 z1 z2 _ _ _).2.1 (aI z0 z1 z2 _ _ _).2.2) rfl ?_;exact Mu.out _ _ _
end
section
open Go.Proofs.Tryz
open Go.RowKit Go.Sort Go.Maps
namespace Ku
def vS (R:List (List Int)) (L:List Int) (k:Nat):Bool:=(opn R R.length (gI L 0,gI L k)).isSome
def bH (R:List (List Int)) (L:List Int):Nat->List Int
 |0=>[]
 |k+1=>if vS R L k then bH R L k else bH R L k++[gI L k]
def dP (R:List (List Int)) (L:List Int):Nat->List Int
 |0=>[]
 |k+1=>if vS R L k then dP R L k++[gI L k] else dP R L k
theorem rG (R:List (List Int)) (L:List Int) (k:Nat):(bH R L k).length+(dP R L k).length=k:=by
 induction k with
 |zero=>rfl
 |succ k ih=>
  unfold bH dP
  split<;>simp<;>omega
def cin (x:Int) (F:List Int):Nat->List (Int×Int)
 |0=>[]
 |j+1=>cin x F j++[(x,gI F j)]
def cout (N F:List Int):Nat->List (Int×Int)
 |0=>[]
 |i+1=>cout N F i++cin (gI N i) F F.length
theorem Ba (x:Int) (F:List Int) (j:Nat):(cin x F j).length=j:=by
 induction j with
 |zero=>rfl
 |succ j ih=>simp[cin,ih]
theorem yO (N F:List Int) (i:Nat):(cout N F i).length=i*F.length:=by
 induction i with
 |zero=>simp[cout]
 |succ i ih=>
  unfold cout;rw[abZ,Ba,ih,Nat.succ_mul]
def Xj (B:Nat) (cs:List Value) (R:List (List Int)) (L:List Int) (q:Nat) (w:World) (e:Ending) (w':World):Prop:=
 ((bH R L q).length≠3/\e= .returned (.tuple #[pK,.bool false])/\Below w.heap.size w w')\/
 ((bH R L q).length=3/\∃bv,aH w' w.heap.size bv (bH R L q++dP R L q)/\(∀(b:Nat) (k v pv r:Value),bv.ownBlock=some b->e= .returned (.tuple #[.agg #[k,v,pv],r])->w.heap.size<=b/\pv.ownBlock≠some b)/\pR B cs R 2 bv (cout (bH R L q) (dP R L q) 3) w e w')
theorem qC {R:List (List Int)} {L:List Int} {k:Nat} (h:vS R L k=true):bH R L (k+1)=bH R L k/\dP R L (k+1)=dP R L k++[gI L k]:=by
 simp only[bH,dP];rw[if_pos h,if_pos h];exact⟨rfl,rfl⟩
theorem rH {R:List (List Int)} {L:List Int} {k:Nat} (h:vS R L k=false):bH R L (k+1)=bH R L k++[gI L k]/\dP R L (k+1)=dP R L k:=by
 have h':¬(vS R L k=true):=by rw[h];simp
 simp only[bH,dP];rw[if_neg h',if_neg h'];exact⟨rfl,rfl⟩
theorem vC {L:List Int} (h:∀x∈L,0<=x/\x<1048576) {k:Nat} (hk:k<L.length):0<=gI L k/\gI L k<1048576:=by
 obtain⟨x,hx⟩:∃x,L[k]? =some x:=⟨_,aac hk⟩;rw[eY hx];exact h x (aah hx)
end Ku
theorem Ra (B:Nat) (ca:Option Addr) (J cc mb nb:Nat) (cs:List Value) (R:List (List Int)) (bo:Option Addr) (q bc:Nat) (L:List Int) (w:World)
 (hJ:R.length=J) (hBw:B<=w.heap.size) (hR:aU w B (.slice ca J cc) cs R) (hS:Ku.Small R) (oy:Ku.OM w mb nb (Ku.opn R R.length)) (hmb:¬eX cs mb) (hq:L.length=q) (KV:q=6) (hL:bV w bo L) (hLs:∀x∈L,0<=x/\x<1048576)
 (hin:(Ku.bH R L q).length=3->∀p∈Ku.cout (Ku.bH R L q) (Ku.dP R L q) 3,jl (Ku.key p)) (hd:(Ku.bH R L q).length=3->∀(t t':Nat) (p p':Int×Int),t≠t'->(Ku.cout (Ku.bH R L q) (Ku.dP R L q) 3)[t]? =some p->(Ku.cout (Ku.bH R L q) (Ku.dP R L q) 3)[t']? =some p'->Ku.key p≠Ku.key p'):
 Calls prog 19 #[.agg #[.slice ca J cc,.map (some mb)],.slice bo q bc] w (Ku.Xj B cs R L q w):=by
 obtain⟨W1,hW1⟩:∃W1,W1=w.alloc (.cells #[.slice ca J cc,.map (some mb)] 54):=⟨_,rfl⟩;obtain⟨W,hW⟩:∃W,W=W1.alloc (.cells #[.int .i64 0,.slice none 0 0,.slice none 0 0] 30):=⟨_,rfl⟩;have hs1:W1.heap.size=w.heap.size+1:=by rw[hW1];simp
 have hB1:Below w.heap.size w W1:=by rw[hW1];exact(aae _ _).alloc (aad _) _
 have hB2:Below W1.heap.size W1 W:=by rw[hW];exact(aae _ _).alloc (aad _) _
 have jE:Below w.heap.size w W:=hB1.trans (hB2.mono hB1.size);have g1:W.heap[w.heap.size]? =some (.cells #[.slice ca J cc,.map (some mb)] 54 (0,0)):=by
  rw[hB2.block _ (by omega),hW1];exact heap_alloc_new w _
 have g2:W.heap[w.heap.size+1]? =some (.cells #[.int .i64 0,.slice none 0 0,.slice none 0 0] 30 (0,0)):=by rw[hW,<-hs1];exact heap_alloc_new W1 _
 have Zm:w.heap.size+1<W.heap.size:=lt_of_block g2;have HW:Hid (W=(w.alloc (.cells #[.slice ca J cc,.map (some mb)] 54)).alloc (.cells #[.int .i64 0,.slice none 0 0,.slice none 0 0] 30)):=by rw[hW,hW1];exact ζ rfl
 have sQ:Hid (∀b,eX cs b->b<w.heap.size):=fun b hb=>(hR.within (.inr hb)).2
 have mY:=ζ g1;have jG:=ζ g2;have fP:=ζ jE;have HL:=ζ hL;have HQ:=ζ hq;obtain⟨N,hN⟩:∃N,Ku.bH R L q=N:=⟨_,rfl⟩;obtain⟨F,hF⟩:∃F,Ku.dP R L q=F:=⟨_,rfl⟩;have hNF:N.length+F.length=q:=by rw[<-hN,<-hF];exact Ku.rG R L q
 have HKU:Hid (∀(U:World) (xa:Option Addr) (xn xc:Nat) (pa:Option Addr) (pn pc:Nat),N.length=3->pn=(Ku.cout N F 3).length->Below W.heap.size W U->aN U pa (Ku.cout N F 3)->(∀x,pa=some x->W.heap.size<=x.block)->Calls prog 30 #[.agg #[.slice ca J cc,.map (some mb)],.int .i64 2,.slice xa xn xc,.slice pa pn pc] U (Ku.pR B cs R 2 (.slice xa xn xc) (Ku.cout N F 3) U)):=fun U xa xn xc pa pn pc h3 DX hU hpa yy=>by
  have hbl:Below w.heap.size w U:=jE.trans (hU.mono jE.size);refine CC B ca J cc mb nb cs R 2 xa xn xc pa pn pc (Ku.cout N F 3) U hJ (acA hBw hbl.size) (hR.later hbl) hS (oy.later hbl) hmb DX.symm ?_ hpa (fun x hx hi=> ?_) (by rw[<-hN,<-hF];exact hin (by rw[hN];exact h3)) (by rw[<-hN,<-hF];exact hd (by rw[hN];exact h3))
  .rw[DX,Ku.yO]
   omega
  .have h1:=yy x hx
   have h2:=sQ.out _ hi;omega
 have HLK:Hid (∀(U:World) (k:Nat),k<q->Below W.heap.size W U->(Instr.lookup 52 (.map (some mb)) (.agg #[.int .i64 (Ku.gI L 0),.int .i64 (Ku.gI L k)]) true).run prog U= .ok (.tuple #[.int .i64 (((Ku.opn R R.length (Ku.gI L 0,Ku.gI L k)).getD 0:Nat):Int),.bool (Ku.vS R L k)]) U):=fun U k hk hU=>by
  have a:=Ku.vC hLs (k:=0) (by omega);have b:=Ku.vC hLs (k:=k) (by omega);exact(oy.later (jE.trans (hU.mono jE.size))).Uy (p:=(Ku.gI L 0,Ku.gI L k)) (by unfold jl;dsimp only;omega)
 have HN:=ζ hN;have HF:=ζ hF;have ZZ:=ζ KV;have DV:q<=6:=by omega
 have hqp:0<q:=by omega
 clear hW hW1 hs1 hB1 hB2 jE g1 g2 hR hS oy hmb hq hL hin hd hJ hLs hN hF KV;go_enter func19,ntmps19;go_wp2_with fail;rw[<-HW.out];go_loopw [6,7,19] (fun nv fv cv wr=>∃(i:Nat),i<=q/\cv= .int .i64 (i:Int)/\aH wr W.heap.size nv (Ku.bH R L i)/\aH wr W.heap.size fv (Ku.dP R L i)/\(∀b,nv.ownBlock=some b->fv.ownBlock≠some b)/\Below W.heap.size W wr) (fun _ _ cv _=>q-(intOf cv).toNat)
 case atStart=>exact⟨0,ab6 _,rfl,aH.nil _ _,aH.nil _ _,fun b hb=>(by cases hb),aae _ _⟩
 case round=>
  obtain⟨i,hi,rfl,hno,hfo,hap,hb⟩:=hrel;obtain⟨U,rfl⟩:∃U,U=wr:=⟨wr,rfl⟩;have lg:=ζ hno;have HFO:=ζ hfo;have HAP:=ζ hap;have HB:=ζ hb;have hwi:IntKind.i64.wrap ((i:Int)+1)=(i:Int)+1:=by rw[acf];omega
  obtain⟨na,nc,hne,hni,-⟩:=hno.form;obtain⟨fa,fc,yA,Sz,-⟩:=hfo.form;have hnl:=Ku.rG R L i;obtain⟨kn,hkn⟩:∃kn,(Ku.bH R L i).length=kn:=⟨_,rfl⟩;obtain⟨kf,pX⟩:∃kf,(Ku.dP R L i).length=kf:=⟨_,rfl⟩;rw[hkn] at hne hnl;rw[pX] at yA hnl;subst hne;subst yA;have HKN:=ζ hkn;have Mo:=ζ pX;have HNI:=ζ hni;have HFI:=ζ Sz;have U4:=hb.size;clear hkn pX hap hni Sz;by_cases hlt:i<q
  .have kR:(i:Int)<(q:Int):=by omega
   have D6:(0:Int)<=(i:Int):=by omega
   have hq0:(0:Int)<(q:Int):=by omega
   obtain⟨x,hx⟩:∃x,L[i]? =some x:=⟨_,aac (by rw[HQ.out];exact hlt)⟩;obtain⟨x0,hx0⟩:∃x,L[0]? =some x:=⟨_,aac (by rw[HQ.out];omega)⟩;have iQ:Below w.heap.size w U:=fP.out.trans (hb.mono fP.out.size);obtain⟨b,o,rfl,e0⟩:=(HL.out.later iQ) i x hx;obtain⟨_,_,ee,e1⟩:=(HL.out.later iQ) 0 x0 hx0;cases ee;rw[ado] at e1;obtain⟨-,c1,-⟩:=aj ((hb.block _ (by omega)).trans mY.out);have Tu:=ζ (Ku.eY hx);obtain⟨jn,hjn⟩:∃jn,Ku.vS R L i=jn:=⟨_,rfl⟩;obtain⟨ci,Oq⟩:∃ci,(((Ku.opn R R.length (Ku.gI L 0,Ku.gI L i)).getD 0:Nat):Int)=ci:=⟨_,rfl⟩;have hlk:∀D:LW U,(Instr.lookup 52 (.map (some mb)) (.agg #[.int .i64 x0,.int .i64 x]) true).run prog D.val= .ok (.tuple #[.int .i64 ci,.bool jn]) D.val:=fun D=>by
    have:=HLK.out D.val i hlt (hb.trans (D.h.mono U4));rw[Oq,hjn,Ku.eY hx,Ku.eY hx0] at this;exact this
   have d1:∀D:LW U,D.val.cell? ⟨b,o,none⟩=some (.int .i64 x0):=fun D=>(D.h.cell (p:=⟨b,o,none⟩) (block_lt_of_cell e1)).trans e1
   have d2:∀D:LW U,D.val.cell? ⟨w.heap.size,1,none⟩=some (.map (some mb)):=fun D=>(D.h.cell (p:=⟨w.heap.size,1,none⟩) (block_lt_of_cell c1)).trans c1
   have hne:=LW.any U;have XU:=ζ hjn;clear hno hfo hb hx hx0 iQ Oq hjn e1;go_wp2_with fail;refine aG (by kernel_rfl) (by kernel_rfl) ?_
   repeat (go_big_quiet_step (fail))
   refine wpQuiet_nil ?_;rintro _ ⟨E,rfl⟩;have Mx:=ζ (HB.out.trans (E.h.mono U4));have zg:=ζ (lg.out.later E.h);have HFE:=ζ (HFO.out.later E.h);obtain⟨V,hV⟩:∃V,V=E.val:=⟨_,rfl⟩;rw[<-hV] at Mx zg HFE ⊢;have Fg:W.heap.size<=V.heap.size:=Mx.out.size;clear d1 d2 hlk hne hV c1 e0;cases jn with
   |true=>
    obtain⟨hn1,vW⟩:=Ku.qC XU.out;rw[Tu.out] at vW;have Mm:=ζ hn1;have qi:=ζ vW;have eO:(Ku.dP R L i).length<=17592186044000:=by rw[Mo.out];omega
    clear hn1 vW;go_wp2_with (at_builtin;refine kE rfl _ _ rfl _ W.heap.size _ _ x HFE.out Fg eO rfl rfl ?_;refine abQ ?_);refine ζ ?_;intro v' w3 hr3 hg3 Li hb3;have sJ:=ζ hr3;have cz:=ζ (Mx.out.trans hb3);have HO3:Hid (aH w3 W.heap.size (.slice na kn nc) (Ku.bH R L i)):=zg.out.same fun g hg hl=>(hg3.block g (by simp;omega) (fun e=>HAP.out g hg e.symm)).trans (heap_alloc_old V _ hl)
    have HA3:Hid (∀b,(Value.slice na kn nc).ownBlock=some b->v'.ownBlock≠some b):=fun b hb e=>by
     rcases Li with h|h
     .exact HAP.out b hb (h▸e)
     .rw[h] at e
      cases e;have:=(acj zg.out _ hb).2;omega
    clear hr3 hg3 Li hb3;go_wp2;go_roundw
    case rel=>exact⟨i+1,by omega,by go_num,by rw[Mm.out];exact HO3.out,by rw[qi.out];exact sJ.out,HA3.out,cz.out⟩
    case measure=>simp[intOf];omega
   |false=>
    obtain⟨hn1,vW⟩:=Ku.rH XU.out;rw[Tu.out] at hn1;have Mm:=ζ hn1;have qi:=ζ vW;have eO:(Ku.bH R L i).length<=17592186044000:=by rw[HKN.out];omega
    clear hn1 vW;go_wp2_with (at_builtin;refine kE rfl _ _ rfl _ W.heap.size _ _ x zg.out Fg eO rfl rfl ?_;refine abQ ?_);refine ζ ?_;intro v' w3 hr3 hg3 Li hb3;have sJ:=ζ hr3;have cz:=ζ (Mx.out.trans hb3);have HO3:Hid (aH w3 W.heap.size (.slice fa kf fc) (Ku.dP R L i)):=HFE.out.same fun g hg hl=>(hg3.block g (by simp;omega) (fun e=>HAP.out g e.symm hg)).trans (heap_alloc_old V _ hl)
    have HA3:Hid (∀b,v'.ownBlock=some b->(Value.slice fa kf fc).ownBlock≠some b):=fun b hb e=>by
     rcases Li with h|h
     .exact HAP.out b (h▸hb) e
     .rw[h] at hb
      cases hb;have:=(acj HFE.out _ e).2;omega
    clear hr3 hg3 Li hb3;go_wp2;go_roundw
    case rel=>exact⟨i+1,by omega,by go_num,by rw[Mm.out];exact sJ.out,by rw[qi.out];exact HO3.out,HA3.out,cz.out⟩
    case measure=>simp[intOf];omega
  .have hdn:¬((i:Int)<(q:Int)):=by omega
   obtain rfl:i=q:=by omega
   have Wi:N.length=kn:=by rw[<-HN.out];exact HKN.out
   have Wo:F.length=kf:=by rw[<-HF.out];exact Mo.out
   rw[HN.out] at lg;rw[HF.out] at HFO;rw[HN.out] at HNI;rw[HF.out] at HFI;have XS:=ζ Wi;have Tv:=ζ Wo;clear hno hfo Wi Wo;by_cases h3:kn=3
   .have t3:((kn:Int) != 3)=false:=by simp[h3]
    have hk3:kn<=3:=by omega
    have xL:=ζ h3;clear h3;go_wp2_with fail;go_loopw [12,50] (fun pv cv wr=>∃(i:Nat),i<=kn/\cv= .int .i64 (i:Int)/\ny wr U.heap.size pv (Ku.cout N F i)/\Below U.heap.size U wr) (fun _ cv _=>kn-(intOf cv).toNat)
    case atStart=>exact⟨0,ab6 _,rfl,ny.nil _ _,aae _ _⟩
    case round=>
     rename_i iq _ _ _ _
     obtain⟨p,hp,rfl,hown,xg⟩:=hrel;obtain⟨V,rfl⟩:∃V,V=wr:=⟨wr,rfl⟩;have HO:=ζ hown;have Jw:=ζ xg;have Fg:=xg.size;have hwp:IntKind.i64.wrap ((p:Int)+1)=(p:Int)+1:=by rw[acf];omega
     obtain⟨pa,pc,KW,hpat,yy⟩:=hown.form;by_cases hlt:p<kn
     .have kR:(p:Int)<(kn:Int):=by omega
      have hp0:(0:Int)<=(p:Int):=by omega
      obtain⟨x,hx⟩:∃x,N[p]? =some x:=⟨_,aac (by rw[XS.out];exact hlt)⟩;obtain⟨b,o,rfl,e0⟩:=(HNI.out.later xg) p x hx;have Tu:=ζ (Ku.eY hx);clear hown KW hpat yy xg hx;go_wp2_with fail;go_loopw [12,56] (fun pv cv wr=>∃(j:Nat),j<=kf/\cv= .int .i64 (j:Int)/\ny wr U.heap.size pv (Ku.cout N F p++Ku.cin (Ku.gI N p) F j)/\Below U.heap.size U wr) (fun _ cv _=>kf-(intOf cv).toNat)
      case atStart=>exact⟨0,ab6 _,rfl,by rw[show Ku.cin (Ku.gI N p) F 0=[] from rfl,acH];exact HO.out,Jw.out⟩
      case round=>
       obtain⟨j,hj,rfl,hown,hb2⟩:=hrel;obtain⟨X,rfl⟩:∃X,X=wr:=⟨wr,rfl⟩;have Jr:=ζ hown;have cj:=ζ hb2;have hs2:=hb2.size;have hwj:IntKind.i64.wrap ((j:Int)+1)=(j:Int)+1:=by rw[acf];omega
       by_cases hjl:j<kf
       .have agV:(j:Int)<(kf:Int):=by omega
        have hj0:(0:Int)<=(j:Int):=by omega
        obtain⟨y,hy⟩:∃y,F[j]? =some y:=⟨_,aac (by rw[Tv.out];exact hjl)⟩;obtain⟨b',o',rfl,e1⟩:=(HFI.out.later hb2) j y hy;have kD:Hid (Ku.cout N F p++Ku.cin (Ku.gI N p) F (j+1)=Ku.cout N F p++Ku.cin (Ku.gI N p) F j++[(x,y)]):=by
         show _=_;rw[ace]
         congr 1
         show Ku.cin (Ku.gI N p) F j++[(Ku.gI N p,Ku.gI F j)]=_;rw[Tu.out,Ku.eY hy]
        have eO:(Ku.cout N F p++Ku.cin (Ku.gI N p) F j).length<=8796093022000:=by
         rw[abZ,Ku.Ba,Ku.yO,Tv.out];have h2:p*kf<=6*6:=afR (by omega) (by omega);omega
        clear hown hb2 hy;go_wp2_with (at_builtin;refine vZ rfl _ _ rfl _ U.heap.size _ _ x y Jr.out hs2 eO rfl rfl ?_;refine abQ ?_);refine ζ ?_;intro v' w3 hrow3 hb3;have sJ:=ζ hrow3;have cz:=ζ (cj.out.trans hb3);clear hrow3 hb3;go_wp2;go_roundw
        case rel=>exact⟨j+1,by omega,by go_num,by rw[kD.out];first|exact sJ.out|(rw[ace];exact sJ.out),cz.out⟩
        case measure=>simp[intOf];omega
       .have hdj:¬((j:Int)<(kf:Int)):=by omega
        obtain rfl:j=kf:=by omega
        have HN9:Hid (Ku.cout N F (p+1)=Ku.cout N F p++Ku.cin (Ku.gI N p) F j):=by
         show _=_;rw[show Ku.cout N F (p+1)=Ku.cout N F p++Ku.cin (Ku.gI N p) F F.length from rfl,Tv.out]
        clear hown hb2;go_wp2;go_roundw
        case rel=>exact⟨p+1,by omega,by go_num,by rw[HN9.out];exact Jr.out,cj.out⟩
        case measure=>simp[intOf];omega
     .have hdp:¬((p:Int)<(kn:Int)):=by omega
      obtain rfl:p=kn:=by omega
      have hpk:=xL.out;rw[hpk] at KW hpat;have dJ:Below W.heap.size W V:=hb.trans (xg.mono U4);have jo:=ζ dJ;have Wi:=XS.out;have Wo:=Tv.out;have HPB:Hid (∀x,pa=some x->W.heap.size<=x.block):=fun x hx=>by have:=(yy x hx).1;omega
      have X6:Hid (∀(ty:TypeId) (Y:World),Below V.heap.size V Y->Y.heap[V.heap.size]? =some (.cells #[.slice na p nc,.slice fa kf fc] ty (0,0))->Calls prog 31 #[.slice (some ⟨V.heap.size,0,none⟩) 2 2] Y fun e u=>∃xa xn xc,e= .returned (.slice xa xn xc)/\aH u V.heap.size (.slice xa xn xc) (N++F)/\Below V.heap.size V u/\aN u pa (Ku.cout N F 3)/\Below W.heap.size W u):=fun ty Y hY hbl=>by
       obtain⟨k0,k1,-⟩:=aj hbl;obtain⟨a1,d1,g1,g2,-⟩:=aH.bT (lg.out.later (xg.trans (hY.mono Fg)));obtain⟨a2,d2,g3,g4,-⟩:=aH.bT (HFO.out.later (xg.trans (hY.mono Fg)));rw[Wi] at g1 g2;rw[Wo] at g3 g4;cases g1;cases g3;refine(Hg V.heap.size na fa p kf nc fc N F Y k0 k1 g2 g4 (by omega) (by omega)).mono ?_;rintro e u ⟨v,rfl,ho,hbu⟩;have hVu:Below V.heap.size V u:=hY.trans (hbu.mono hY.size);obtain⟨xa,xc,qH,-,-⟩:=ho.form;subst qH;exact⟨_,_,_,rfl,ho.lower hY.size,hVu,hpat.later hVu,dJ.trans (hVu.mono dJ.size)⟩
      obtain⟨pn,DX⟩:∃pn,(Ku.cout N F 3).length=pn:=⟨_,rfl⟩;rw[DX] at KW;subst KW;have Mj:Hid (pn=(Ku.cout N F 3).length):=DX.symm;have HN3:Hid (N.length=3):=XS.out.trans xL.out;obtain⟨c0,c1,-⟩:=aj ((dJ.block _ (by omega)).trans mY.out);have Pb:Hid (∀Y:World,Below V.heap.size V Y->Y.cell? ⟨w.heap.size,0,none⟩=some (.slice ca J cc)/\Y.cell? ⟨w.heap.size,1,none⟩=some (.map (some mb))):=fun Y hY=>by
       obtain⟨c0,c1,-⟩:=aj ((hY.block _ (by omega)).trans ((dJ.block _ (by omega)).trans mY.out));exact⟨c0,c1⟩
      have Mh:Hid (∀(u e u2:_),Below V.heap.size V u->∀bv,Ku.pR B cs R 2 bv (Ku.cout N F 3) u e u2->u2.heap[w.heap.size]? =some (.cells #[.slice ca J cc,.map (some mb)] 54 (0,0))/\u2.heap[w.heap.size+1]? =some (.cells #[.int .i64 0,.slice none 0 0,.slice none 0 0] 30 (0,0))):=fun u e u2 hu bv hk=>by
       have:=hu.size;exact⟨(hk.2.block _ (by omega) (fun h=>by have:=sQ.out _ h;omega)).trans ((hu.block _ (by omega)).trans ((dJ.block _ (by omega)).trans mY.out)),(hk.2.block _ (by omega) (fun h=>by have:=sQ.out _ h;omega)).trans ((hu.block _ (by omega)).trans ((dJ.block _ (by omega)).trans jG.out))⟩
      have xK:Hid (∀(u2:World) (x y z:Value),u2.heap[w.heap.size]? =some (.cells #[.slice ca J cc,.map (some mb)] 54 (0,0))->(((u2.setCell ⟨w.heap.size+1,0,none⟩ x).setCell ⟨w.heap.size+1,1,none⟩ y).setCell ⟨w.heap.size+1,2,none⟩ z).cell? ⟨w.heap.size,0,none⟩=some (.slice ca J cc)/\(((u2.setCell ⟨w.heap.size+1,0,none⟩ x).setCell ⟨w.heap.size+1,1,none⟩ y).setCell ⟨w.heap.size+1,2,none⟩ z).cell? ⟨w.heap.size,1,none⟩=some (.map (some mb))):=fun u2 x y z h=>by
       have hne:w.heap.size≠w.heap.size+1:=by omega
       have e:(((u2.setCell ⟨w.heap.size+1,0,none⟩ x).setCell ⟨w.heap.size+1,1,none⟩ y).setCell ⟨w.heap.size+1,2,none⟩ z).heap[w.heap.size]? =some (.cells #[.slice ca J cc,.map (some mb)] 54 (0,0)):=by
        rw[heap_setCell_other _ ⟨w.heap.size+1,2,none⟩ _ _ hne,heap_setCell_other _ ⟨w.heap.size+1,1,none⟩ _ _ hne,heap_setCell_other _ ⟨w.heap.size+1,0,none⟩ _ _ hne];exact h
       obtain⟨c0,c1,-⟩:=aj e;exact⟨c0,c1⟩
      have XE:=Pb.out V (aae _ _);have Pa:=Pb.out V.drew (aae _ _).drew;clear hown hpat yy xg hb dJ DX Wi Wo hpk c0 c1;go_wp2_with fail
      go_region_held3 (fun Y=>Y.cell? ⟨w.heap.size,0,none⟩=some (.slice ca J cc)/\Y.cell? ⟨w.heap.size,1,none⟩=some (.map (some mb)))
       (first|exact XE|exact Pa|exact hS1|exact Wb|exact xK.out _ _ _ _ m1|exact Pb.out _ ((aae _ _).alloc (aad _) _)|exact Pb.out _ ((aae _ _).alloc (aad _) _).drew|exact Pb.out _ ((aae _ _).drew.alloc (aad _) _))
       (first
         |(go_at_call 31;(first|refine(X6.out _ _ ((aae _ _).alloc (aad _) _) (heap_alloc_new V _)).mono ?_|refine(X6.out _ _ ((aae _ _).drew.alloc (aad _) _) (heap_alloc_new V.drew _)).mono ?_|refine(X6.out _ _ ((aae _ _).alloc (aad _) _).drew (heap_alloc_new V _)).mono ?_);rintro e u1 ⟨xa,xn,xc,rfl,ho1,hb1,hE1,hW1⟩;have hS1:=Pb.out u1 hb1)
         |(go_at_call 30;refine(HKU.out u1 xa xn xc pa pn pc HN3.out Mj.out hW1 hE1 HPB.out).mono ?_;intro e u2 hkp;obtain⟨m1,m2⟩:=Mh.out u1 e u2 hb1 _ hkp;have Wb:=(fun (h:u2.heap[w.heap.size]? =some (.cells #[.slice ca J cc,.map (some mb)] 54 (0,0)))=>And.intro (aj h).1 (aj h).2.1) m1;obtain⟨z0,z1,z2,zf⟩:=cu m2;have hf0:=zf 0;have vW:=zf 1;have hf2:=zf 2;obtain⟨y1,s1,s2,s3,q1,q2,q3,r,rfl⟩:=hkp.shape))
      have hsu:=hb1.size;have Tk:Hid (∀x y z:Value,aH (((u2.setCell ⟨w.heap.size+1,0,none⟩ x).setCell ⟨w.heap.size+1,1,none⟩ y).setCell ⟨w.heap.size+1,2,none⟩ z) w.heap.size (.slice xa xn xc) (N++F)):=fun x y z=>(ho1.lower (by omega)).same fun g hg hl=>by
       have h1:=(acj ho1 _ hg).1;have hne:g≠w.heap.size+1:=by omega
       rw[heap_setCell_other _ ⟨w.heap.size+1,2,none⟩ g _ hne,heap_setCell_other _ ⟨w.heap.size+1,1,none⟩ g _ hne,heap_setCell_other _ ⟨w.heap.size+1,0,none⟩ g _ hne];exact hkp.2.block g hl (fun h=>by have:=sQ.out _ h;omega)
      have Mu:=ζ (fun x y z:Value=>hkp.far (w:=w) (V:=((u2.setCell ⟨w.heap.size+1,0,none⟩ x).setCell ⟨w.heap.size+1,1,none⟩ y).setCell ⟨w.heap.size+1,2,none⟩ z) (fP.out.trans (hW1.mono fP.out.size)) (c:=w.heap.size+1) ⟨by omega,by omega⟩ sQ.out (fun b hb=>by rw[heap_setCell_other _ ⟨w.heap.size+1,2,none⟩ b _ hb,heap_setCell_other _ ⟨w.heap.size+1,1,none⟩ b _ hb,heap_setCell_other _ ⟨w.heap.size+1,0,none⟩ b _ hb]) (by simp) rfl rfl rfl);have ajI:Hid (∀(b:Nat) (k v pv r':Value),(Value.slice xa xn xc).ownBlock=some b->Ending.returned (.tuple #[.agg #[.int .i64 y1,.slice s1 s2 s3,.slice q1 q2 q3],.bool r])= .returned (.tuple #[.agg #[k,v,pv],r'])->w.heap.size<=b/\pv.ownBlock≠some b):=fun b k v pv r' hb he=>by
       have hlt:=acj ho1 _ hb;refine⟨by omega,fun e=> ?_⟩;rcases hkp.1 with ⟨_,h⟩|⟨_,pv2,vs2,h,_,h3,_⟩
       .rw[h] at he
        unfold Ku.pK at he;cases he;cases e
       .rw[h] at he
        cases he;have:=h3 b e;omega
      have Z8:Hid ((Ku.bH R L i).length=3):=by rw[HN.out,XS.out];exact xL
      clear hkp ho1 hb1 hE1 hW1 m1 m2 zf hS1 Wb XE Pa;go_wp2;refine bodyPost_ret (gw rfl rfl _ _ (w.heap.size+1) _ _ _ _ rfl rfl (aI z0 z1 z2 _ _ _).1 (aI z0 z1 z2 _ _ _).2.1 (aI z0 z1 z2 _ _ _).2.2) rfl ?_;exact .inr ⟨Z8.out,_,by rw[HN.out,HF.out];exact Tk.out _ _ _,ajI.out,by rw[HN.out,HF.out];exact Mu.out _ _ _⟩
   .have t3:((kn:Int) != 3)=true:=by simp;omega
    have aiT:Hid ((Ku.bH R L i).length≠3):=by rw[HN.out,XS.out];exact ζ h3
    obtain⟨z0,z1,z2,zf⟩:=cu ((hb.block _ (by omega)).trans jG.out);have hf0:=zf 0;have vW:=zf 1;have hf2:=zf 2;have uD:Hid (∀x y z:Value,Below w.heap.size w (((U.setCell ⟨w.heap.size+1,0,none⟩ x).setCell ⟨w.heap.size+1,1,none⟩ y).setCell ⟨w.heap.size+1,2,none⟩ z)):=fun x y z=>fN (fP.out.trans (hb.mono fP.out.size)) (by omega) x y z
    clear zf hb h3;go_wp2;refine bodyPost_ret (gw rfl rfl _ _ (w.heap.size+1) _ _ _ _ rfl rfl (aI z0 z1 z2 _ _ _).1 (aI z0 z1 z2 _ _ _).2.1 (aI z0 z1 z2 _ _ _).2.2) rfl ?_;exact .inl ⟨aiT.out,rfl,uD.out _ _ _⟩
end
end Go.Proofs.YtbhdibflpjhpaaaGreat
