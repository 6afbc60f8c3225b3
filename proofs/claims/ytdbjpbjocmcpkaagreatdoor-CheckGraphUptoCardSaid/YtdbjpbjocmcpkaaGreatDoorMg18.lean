import Derived.Test.YtdbjpbjocmcpkaaGreatDoorMg17
import Derived.Lib.AppendZerosOnto
set_option maxHeartbeats 8000000
set_option maxRecDepth 100000
namespace Go.Proofs.YtdbjpbjocmcpkaaGreatDoor
section
open Go.Proofs.Tryz
open Go.RowKit Go.Sort Go.Maps
theorem Tryz.Ja:(prog.info? 57).map (fun i=>(i.zero,i.size,i.bytes))=some (some (.agg #[.int .i64 0,.int .i64 0]),2,16):=by kernel_rfl
def kA (w:World) (B:Nat) (v:Value) (ps:List (Int×Int)):Prop:=w.ownsRow B 57 2 v ps.length (gF ps)
theorem kA.nil (w:World) (B:Nat):kA w B (.slice none 0 0) []:=acO _ _ _ _
theorem kA.form {w:World} {B:Nat} {v:Value} {es:List (Int×Int)} (h:kA w B v es):∃ao cap,v= .slice ao es.length cap/\ah w ao es/\(∀x,ao=some x->B<=x.block/\x.block<w.heap.size):=by
 have h':=h;unfold kA at h';rcases h.2 with ⟨rfl,h0⟩|⟨g,cap,cur,rfl,hg,hh,hc,hm,_⟩
 .refine⟨none,0,by rw[h0],fun j p hj=> ?_,fun x h=>by cases h⟩
  rw[abM.1 h0] at hj;simp at hj
 .refine⟨_,cap,rfl,fun j p hj=>⟨g,0,rfl,?_⟩,fun x h=>by cases h;exact⟨hg,lt_of_block hh⟩⟩
  have hcl:=aco h' (g:=g) rfl;simp only[SZ] at hcl;obtain⟨h0,h1⟩:=nT es j p hj;rw[abI];exact⟨hcl _ _ h0,hcl _ _ h1⟩
theorem sX {ops:Array Oper} {rest:List Oper} {o:Oper} {a:Act} {Q:Exit->Act->World->Prop} (hgd:o.guard=none) (s x:Operand)
 (ho:o.op= .call { callee:= .builtin .append,args:= #[s,x],argTypes:= #[59,59] }) (W:World) (B:Nat) (v:Value) (l:List (Int×Int)) (y z:Int) (hown:kA W B v l)
 (hB:B<=W.heap.size) (hl:l.length<=8796093022000) (hs:a.eval s=v) (hx:a.eval x= .slice (some ⟨W.heap.size,0,none⟩) 1 1)
 (h:∀v' w',kA w' B v' (l++[(y,z)])->Below B W w'->wpList prog ops Q rest (a.put o.dst v') w'):
 wpList prog ops Q (o::rest) a (W.alloc (.cells #[.int .i64 y,.int .i64 z] 57)):=by
 obtain⟨i0,hi,hz0,hz1,hz2⟩:=info_parts Tryz.Ja;have hb0:Below B W (W.alloc (.cells #[.int .i64 y,.int .i64 z] 57)):=(aae _ _).alloc hB _;refine wpList_append_own _ hgd s x 59 ho B 57 i0 (.agg #[.int .i64 0,.int .i64 0]) 2 16 Tryz.underlying59 hi hz0 hz1 hz2 rfl (by decide) _ _ _ hs (abH hown _) ⟨W.heap.size,0,none⟩ 1 1 [.int .i64 y,.int .i64 z] hx rfl (ud _ _ rfl _ _ _) (by simp[Value.oneCell']) (by unfold maxLen;omega) (by omega) (by simp;omega) ?_;intro v' w' hown' hg _;have ho':kA w' B v' (l++[(y,z)]):=by
  unfold kA;rw[qO,aar];exact hown'
 exact h v' w' ho' (hb0.grown hg (by simp;omega) (fun b hb=>(aap hown b hb).1))
namespace Ku
def sx (L:List Int) (i:Nat):Nat->List (Int×Int)
 |0=>[]
 |j+1=>sx L i j++[(gI L i,gI L (i+1+j))]
def cU (L:List Int):Nat->List (Int×Int)
 |0=>[]
 |i+1=>cU L i++sx L i (L.length-(i+1))
theorem yE (L:List Int) (i j:Nat):(sx L i j).length=j:=by
 induction j with
 |zero=>rfl
 |succ j ih=>simp[sx,ih]
theorem vH (L:List Int) (i:Nat):(cU L i).length<=i*L.length:=by
 induction i with
 |zero=>simp[cU]
 |succ i ih=>
  unfold cU;rw[aar,yE,aed];omega
theorem mM.shape {B:Nat} {cs:List Value} {R:List (List Int)} {kd:Int} {ba:Option Addr} {bn bc:Nat} {ps:List (Int×Int)} {w w':World} {e:Ending} (h:mM B cs R kd (.slice ba bn bc) ps w e w'):∃(v1:Int) (s1:Option Addr) (s2 s3:Nat) (u1:Option Addr) (u2 u3:Nat) (r:Bool),e= .returned (.tuple #[.agg #[.int .i64 v1,.slice s1 s2 s3,.slice u1 u2 u3],.bool r]):=by
 rcases h.1 with ⟨_,h⟩|⟨_,pv,vs,h,hr,_⟩
 .exact⟨_,_,_,_,_,_,_,_,h⟩
 .obtain⟨a,c,rfl⟩:=bG hr
  exact⟨_,_,_,_,_,_,_,_,h⟩
theorem mM.far {B:Nat} {cs:List Value} {R:List (List Int)} {kd:Int} {bv:Value} {ps:List (Int×Int)} {w w1 w' V:World} {e:Ending} (h:mM B cs R kd bv ps w1 e w') (hb:Below w.heap.size w w1) {c:Nat} (hc:w.heap.size<=c/\c<w1.heap.size) (hcs:∀b,cC cs b->b<w.heap.size) (hV:∀b,b≠c->V.heap[b]? =w'.heap[b]?) (hs:V.heap.size=w'.heap.size) (h1:V.os=w'.os) (h2:V.tape=w'.tape) (h3:V.output=w'.output):mM B cs R kd bv ps w e V:=by
 obtain⟨cI,hw⟩:=h;have hw2:=((aq.refl (fun b=>cC cs b) w).later hb).trans hw;refine⟨?_,h1.trans hw2.os,h2.trans hw2.tape,h3.trans hw2.output,by rw[hs];exact hw2.size,fun k hk hn=>(hV k (by omega)).trans (hw2.block k hk hn)⟩;rcases cI with cI|⟨ha,pv,vs,he,hr,ho,hin⟩
 .exact .inl cI
 .refine .inr ⟨ha,pv,vs,he,hr.kept fun b hb' _=>hV b ?_,fun b hb'=>aaD hb.size (ho b hb'),hin⟩
  rcases hb' with hb'|hb'
  .have:=ho b hb'
   omega
  .have:=hcs b (hin b hb')
   omega
end Ku
theorem K4 (B:Nat) (ca:Option Addr) (J cc mb nb:Nat) (cs:List Value) (R:List (List Int)) (bo:Option Addr) (q bc:Nat) (L:List Int) (w:World)
 (hJ:R.length=J) (hBw:B<=w.heap.size) (hR:ay w B (.slice ca J cc) cs R) (hS:Ku.Small R) (lM:Ku.OM w mb nb (Ku.opn R R.length)) (hmb:¬cC cs mb) (hq:L.length=q) (qF:0<q) (pV:q<=6) (hqc:q<=bc) (hbc:bc<=9223372036854775807) (hL:aU w bo L)
 (hin:∀p∈Ku.cU L q,fW (Ku.key p)) (hd:∀(t t':Nat) (p p':Int×Int),t≠t'->(Ku.cU L q)[t]? =some p->(Ku.cU L q)[t']? =some p'->Ku.key p≠Ku.key p'):
 Calls prog 148 #[.agg #[.slice ca J cc,.map (some mb)],.slice bo q bc] w (Ku.mM B cs R 1 (.slice bo q bc) (Ku.cU L q) w):=by
 obtain⟨W1,hW1⟩:∃W1,W1=w.alloc (.cells #[.slice ca J cc,.map (some mb)] 248):=⟨_,rfl⟩;obtain⟨W,hW⟩:∃W,W=W1.alloc (.cells #[.int .i64 0,.slice none 0 0,.slice none 0 0] 82):=⟨_,rfl⟩;have hs1:W1.heap.size=w.heap.size+1:=by rw[hW1];simp
 have hB1:Below w.heap.size w W1:=by rw[hW1];exact(aae _ _).alloc (aad _) _
 have hB2:Below W1.heap.size W1 W:=by rw[hW];exact(aae _ _).alloc (aad _) _
 have hBW:Below w.heap.size w W:=hB1.trans (hB2.mono hB1.size);have g1:W.heap[w.heap.size]? =some (.cells #[.slice ca J cc,.map (some mb)] 248 (0,0)):=by
  rw[hB2.block _ (by omega),hW1];exact heap_alloc_new w _
 have g2:W.heap[w.heap.size+1]? =some (.cells #[.int .i64 0,.slice none 0 0,.slice none 0 0] 82 (0,0)):=by rw[hW,<-hs1];exact heap_alloc_new W1 _
 have UZ:w.heap.size+1<W.heap.size:=lt_of_block g2;have HW:Hid (W=(w.alloc (.cells #[.slice ca J cc,.map (some mb)] 248)).alloc (.cells #[.int .i64 0,.slice none 0 0,.slice none 0 0] 82)):=by rw[hW,hW1];exact ζ rfl
 have iE:Hid (∀b,cC cs b->b<w.heap.size):=fun b hb=>(hR.within (.inr hb)).2
 have gL:=ζ g1;have cZ:=ζ g2;have cH:=ζ hBW;have HL:=ζ hL;have HQ:=ζ hq;have Zq:Hid (∀(U:World) (pa:Option Addr) (pc:Nat),Below W.heap.size W U->ah U pa (Ku.cU L q)->(∀x,pa=some x->W.heap.size<=x.block)->Calls prog 213 #[.agg #[.slice ca J cc,.map (some mb)],.int .i64 1,.slice bo q bc,.slice pa (Ku.cU L q).length pc] U (Ku.mM B cs R 1 (.slice bo q bc) (Ku.cU L q) U)):=fun U pa pc hU hpa qG=>by
  have hbl:Below w.heap.size w U:=hBW.trans (hU.mono hBW.size);refine Av B ca J cc mb nb cs R 1 bo q bc pa _ pc (Ku.cU L q) U hJ (aaD hBw hbl.size) (hR.later hbl) hS (lM.later hbl) hmb rfl ?_ hpa (fun x hx hi=> ?_) hin hd
  .have h1:=Ku.vH L q
   rw[hq] at h1;have h2:q*q<=6*6:=ad2 pV pV;omega
  .have h1:=qG x hx
   have h2:=iE.out _ hi;omega
 clear hW hW1 hs1 hB1 hB2 hBW g1 g2 hR hS lM hmb hq hL hin hd hJ;go_enter func148,ntmps148;go_wp2_with fail;rw[<-HW.out];go_loopw [6,13] (fun pv cv wr=>∃(i:Nat),i<=q/\cv= .int .i64 (i:Int)/\kA wr W.heap.size pv (Ku.cU L i)/\Below W.heap.size W wr) (fun _ cv _=>q-(intOf cv).toNat)
 case atStart=>exact⟨0,aax _,rfl,kA.nil _ _,aae _ _⟩
 case round=>
  obtain⟨i,hi,rfl,hown,hb⟩:=hrel;obtain⟨U,rfl⟩:∃U,U=wr:=⟨wr,rfl⟩;have HO:=ζ hown;have HB:=ζ hb;have hwi:IntKind.i64.wrap ((i:Int)+1)=(i:Int)+1:=by rw[aam];omega
  obtain⟨pa,pc,mW,hpat,qG⟩:=hown.form;have HPA:=ζ hpat;have HPB:=ζ qG;by_cases hlt:i<q
  .have aQ:(i:Int)<(q:Int):=by omega
   have mj:(0:Int)<=(i:Int):=by omega
   obtain⟨x,hx⟩:∃x,L[i]? =some x:=⟨_,aac (by rw[HQ.out];exact hlt)⟩;obtain⟨b,o,rfl,e0⟩:=(HL.out.later (cH.out.trans (hb.mono cH.out.size))) i x hx;obtain⟨i1,hi1⟩:∃i1,i1=i+1:=⟨_,rfl⟩;obtain⟨m,hm⟩:∃m,m=q-i1:=⟨_,rfl⟩;have hwa:IntKind.i64.wrap ((i:Int)+1)=(i1:Int):=by rw[aam];omega
   have k1:(0:Int)<=(i1:Int):=by omega
   have k2:(i1:Int)<=(q:Int):=by omega
   have k3:(q:Int)<=(bc:Int):=by omega
   have k4:(i1:Int)<=(bc:Int):=by omega
   have G6:=ζ (Ku.bK hx);have HX:=ζ hx;clear hown mW hpat qG hb hx hwi;by_cases hcap:bc=i1
   .go_wp2_with fail
    generalize hmm:q-(i+1)=mm;have pJ:=ζ hmm;have hmb:mm<=6:=by omega
    go_loopw [6,23] (fun pv cv wr=>∃(j:Nat),j<=mm/\cv= .int .i64 (j:Int)/\kA wr W.heap.size pv (Ku.cU L i++Ku.sx L i j)/\Below W.heap.size W wr) (fun _ cv _=>mm-(intOf cv).toNat)
    case atStart=>exact⟨0,aax _,rfl,by rw[show Ku.sx L i 0=[] from rfl,abQ];exact HO.out,HB.out⟩
    case round=>
     obtain⟨j,hj,rfl,hown,hb⟩:=hrel;obtain⟨V,rfl⟩:∃V,V=wr:=⟨wr,rfl⟩;have kQ:=ζ hown;have aB:=ζ hb;have hs2:=hb.size;have UC:IntKind.i64.wrap ((j:Int)+1)=(j:Int)+1:=by rw[aam];omega
     by_cases hjl:j<mm
     .exfalso
      omega
     .have hdj:¬((j:Int)<(mm:Int)):=by omega
      obtain rfl:j=mm:=by omega
      have HN:Hid (Ku.cU L (i+1)=Ku.cU L i++Ku.sx L i j):=by
       show _=_;rw[show Ku.cU L (i+1)=Ku.cU L i++Ku.sx L i (L.length-(i+1)) from rfl,HQ.out,pJ.out]
      have hwi:IntKind.i64.wrap ((i:Int)+1)=(i:Int)+1:=by rw[aam];omega
      clear hown hb hmm;go_wp2;go_roundw
      case rel=>exact⟨i+1,by omega,by go_num,by rw[HN.out];exact kQ.out,aB.out⟩
      case measure=>simp[intOf];omega
   .go_wp2_with fail
    generalize hmm:q-(i+1)=mm;have pJ:=ζ hmm;have hmb:mm<=6:=by omega
    go_loopw [6,23] (fun pv cv wr=>∃(j:Nat),j<=mm/\cv= .int .i64 (j:Int)/\kA wr W.heap.size pv (Ku.cU L i++Ku.sx L i j)/\Below W.heap.size W wr) (fun _ cv _=>mm-(intOf cv).toNat)
    case atStart=>exact⟨0,aax _,rfl,by rw[show Ku.sx L i 0=[] from rfl,abQ];exact HO.out,HB.out⟩
    case round=>
     obtain⟨j,hj,rfl,hown,hb⟩:=hrel;obtain⟨V,rfl⟩:∃V,V=wr:=⟨wr,rfl⟩;have kQ:=ζ hown;have aB:=ζ hb;have hs2:=hb.size;have UC:IntKind.i64.wrap ((j:Int)+1)=(j:Int)+1:=by rw[aam];omega
     by_cases hjl:j<mm
     .have aa8:(j:Int)<(mm:Int):=by omega
      have hj0:(0:Int)<=(j:Int):=by omega
      obtain⟨y,hy⟩:∃y,L[i+1+j]? =some y:=⟨_,aac (by rw[HQ.out];omega)⟩;obtain⟨b',o',ee,e1⟩:=(HL.out.later (cH.out.trans (hb.mono cH.out.size))) _ y hy;cases ee;have e2:V.cell? ⟨b,o+(i+1)+j,none⟩=some (.int .i64 y):=by rw[adx o (i+1) j];exact e1
      have gS:Hid (Ku.cU L i++Ku.sx L i (j+1)=Ku.cU L i++Ku.sx L i j++[(x,y)]):=by
       show _=_;rw[aaR]
       congr 1
       show Ku.sx L i j++[(Ku.gI L i,Ku.gI L (i+1+j))]=_;rw[G6.out,Ku.bK hy]
      have dW:(Ku.cU L i++Ku.sx L i j).length<=8796093022000:=by
       rw[aar,Ku.yE];have h1:=Ku.vH L i;rw[HQ.out] at h1;have h2:i*q<=6*6:=ad2 (by omega) pV;omega
      clear hown hb hy e1;go_wp2_with (at_builtin;refine sX rfl _ _ rfl _ W.heap.size _ _ x y kQ.out hs2 dW rfl rfl ?_;refine aaj ?_);refine ζ ?_;intro v' w3 hrow3 hb3;have jH:=ζ hrow3;have aJ:=ζ (aB.out.trans hb3);clear hrow3 hb3;go_wp2;go_roundw
      case rel=>exact⟨j+1,by omega,by go_num,by rw[gS.out];first|exact jH.out|(rw[aaR];exact jH.out),aJ.out⟩
      case measure=>simp[intOf];omega
     .have hdj:¬((j:Int)<(mm:Int)):=by omega
      obtain rfl:j=mm:=by omega
      have HN:Hid (Ku.cU L (i+1)=Ku.cU L i++Ku.sx L i j):=by
       show _=_;rw[show Ku.cU L (i+1)=Ku.cU L i++Ku.sx L i (L.length-(i+1)) from rfl,HQ.out,pJ.out]
      have hwi:IntKind.i64.wrap ((i:Int)+1)=(i:Int)+1:=by rw[aam];omega
      clear hown hb hmm;go_wp2;go_roundw
      case rel=>exact⟨i+1,by omega,by go_num,by rw[HN.out];exact kQ.out,aB.out⟩
      case measure=>simp[intOf];omega
  .have hd:¬((i:Int)<(q:Int)):=by omega
   obtain rfl:i=q:=by omega
   have ac4:=ζ (Zq.out U pa pc hb hpat (fun x hx=>(qG x hx).1));obtain⟨c0,c1,-⟩:=af ((hb.block _ (by omega)).trans gL.out);subst mW;clear hown hpat qG hb;go_wp2_with (go_at_call 213;refine ac4.out.mono ?_;refine aaj ?_);refine ζ ?_;intro e w3 hkp;have agA:W.heap.size<=w3.heap.size:=aaD HB.out.size hkp.2.size;have ck:w3.heap[w.heap.size+1]? =some (.cells #[.int .i64 0,.slice none 0 0,.slice none 0 0] 82 (0,0)):=(hkp.2.block _ (by have:=HB.out.size;omega) (fun h=>by have:=iE.out _ h;omega)).trans ((HB.out.block _ (by omega)).trans cZ.out);obtain⟨z0,z1,z2,zf⟩:=aO ck;have hf0:=zf 0;have qH:=zf 1;have hf2:=zf 2;have hUs:=HB.out.size;have C2:Hid (∀x y z:Value,Ku.mM B cs R 1 (.slice bo i bc) (Ku.cU L i) w e (((w3.setCell ⟨w.heap.size+1,0,none⟩ x).setCell ⟨w.heap.size+1,1,none⟩ y).setCell ⟨w.heap.size+1,2,none⟩ z)):=fun x y z=>hkp.far (cH.out.trans (HB.out.mono cH.out.size)) (c:=w.heap.size+1) ⟨by omega,by omega⟩ iE.out (fun b hb=>by rw[heap_setCell_other _ ⟨w.heap.size+1,2,none⟩ b _ hb,heap_setCell_other _ ⟨w.heap.size+1,1,none⟩ b _ hb,heap_setCell_other _ ⟨w.heap.size+1,0,none⟩ b _ hb]) (by simp) rfl rfl rfl
   obtain⟨v1,s1,s2,s3,u1,u2,u3,r,rfl⟩:=hkp.shape;clear hkp ck zf c0 c1;go_wp2;refine bodyPost_ret (eO rfl rfl _ _ (w.heap.size+1) _ _ _ _ rfl rfl (au z0 z1 z2 _ _ _).1 (au z0 z1 z2 _ _ _).2.1 (au z0 z1 z2 _ _ _).2.2) rfl ?_;exact C2.out _ _ _
end
section
open Go.RowKit
theorem qg {ops:Array Oper} {rest:List Oper} {o:Oper} {a:Act} {Q:Exit->Act->World->Prop} (hgd:o.guard=none) (s x:Operand)
 (ho:o.op= .call { callee:= .builtin .append,args:= #[s,x],argTypes:= #[55,55] }) (W:World) (B:Nat) (v:Value) (l xs:List Int) (hown:aj W B v l) (xo:Option Addr) (xn xc:Nat) (hx0:xT W xo xn xc xs)
 (hB:B<=W.heap.size) (hl:l.length+xs.length<=17592186044000) (hs:a.eval s=v) (hx:a.eval x= .slice xo xn xc)
 (h:∀v' w',aj w' B v' (l++xs)->Below B W w'->wpList Tryz.prog ops Q rest (a.put o.dst v') w'):
 wpList Tryz.prog ops Q (o::rest) a W:=by
 obtain⟨i0,hi,hz0,hz1,hz2⟩:=info_parts Tryz.b7;rcases xo with _|y
 .obtain⟨rfl,rfl⟩:=hx0.none rfl
  have e:xs=[]:=abM.1 hx0.len;subst e;refine wpList_append_own_none hgd s x 55 ho B 3 i0 1 Tryz.underlying55 hi v l.length (l.map (Value.int .i64)) hs hown hx ?_;exact h v W (by rw[abQ];exact hown) (aae _ _)
 .have hxl:=hx0.len
  refine wpList_append_own W hgd s x 55 ho B 3 i0 (.int .i64 0) 1 8 Tryz.underlying55 hi hz0 hz1 hz2 rfl (by decide) v l.length (l.map (Value.int .i64)) hs hown y xn xc (xs.map (Value.int .i64)) hx (by rw[aaE,hx0.len];omega) ?_ (ints_oneCell .i64 _) (by unfold maxLen;omega) (by omega) hB ?_
  .intro j u hj
   rw[aaP] at hj;cases BK:xs[j]? with
   |none=>rw[BK] at hj;cases hj
   |some z=>
    rw[BK] at hj;obtain rfl:=aaG hj;obtain⟨b,o',e,hc⟩:=hx0.ints j z BK;cases e;have ea:((⟨b,o',none⟩:Addr).add j)=⟨b,o'+j,none⟩:=by
     by_cases h0:j=0<;>simp[Addr.add,h0]
    rw[ea];exact hc
  .intro v' w' hown' hg _
   refine h v' w' ?_ ((aae B W).grown hg hB (fun b hb=>(aap hown b hb).1));unfold aj;rw[aar,abj,hxl];exact hown'
end
section
open Go.Proofs.Tryz
open Go.RowKit
theorem K2 (n:Nat) (w:World) (h0:0<n) (hn:n<=1000):
 Calls prog 137 #[.slice none 0 0,.int .i64 (n:Int)] w fun e w'=>∃c,e= .returned (.slice (some ⟨w.heap.size,0,none⟩) 0 c)/\aj w' w.heap.size (.slice (some ⟨w.heap.size,0,none⟩) 0 c) []/\Below w.heap.size w w':=by
 obtain⟨i0,hi,hz0,hz1,hz2⟩:=info_parts Tryz.b7;have hap:∀ty,(Builtin.append_ #[55,3] ty #[.slice none 0 0,.int .i64 (n:Int)]).run prog w= .ok (.slice (some ⟨w.heap.size,0,none⟩) n (grownCap w n 0 3)) (w.drew.alloc (.cells (Builtin.zeroCells (Value.int .i64 0).cells n++Builtin.zeroCells (Value.int .i64 0).cells (grownCap w n 0 3-n)) 3)):=fun ty=>
  Lib.run_append_nil_zeros w 55 3 ty 3 i0 (.int .i64 0) .i64 .i64 Tryz.underlying55 Tryz.underlying3 hi hz0 n h0 (by omega) (by omega) (by rw[hz2];omega)
 have uy:=grownCap_ge w n 0 3;have Gw:=grownCap_le_maxLen w n 0 3 (by unfold maxLen;omega);obtain⟨G,hG⟩:∃G,grownCap w n 0 3=G:=⟨_,rfl⟩;rw[hG] at hap uy Gw;obtain⟨Z,hZ⟩:∃Z,Builtin.zeroCells (Value.int .i64 0).cells n++Builtin.zeroCells (Value.int .i64 0).cells (G-n)=Z:=⟨_,rfl⟩;have hZs:Z.size=G:=by
  rw[<-hZ];simp[Builtin.zeroCells,Value.cells];omega
 rw[hZ] at hap;have HZS:=ζ hZs;have hm:G<=9223372036854775807:=by unfold maxLen at Gw;exact Gw
 have k1:¬((n:Int)<0):=by omega
 have k2:(0:Int)<(n:Int):=by omega
 have k3:IntKind.i64.wrap (n:Int)=(n:Int):=by rw[aam];omega
 have k4:(0:Int)<=(G:Int):=by omega
 have HF:Hid (aj (w.drew.alloc (.cells Z 3)) w.heap.size (.slice (some ⟨w.heap.size,0,none⟩) 0 G) []/\Below w.heap.size w (w.drew.alloc (.cells Z 3))):=by
  refine ζ ⟨⟨by simp,.inr ⟨w.heap.size,G,Z,rfl,aad _,heap_alloc_new w.drew _,aax _,Gw,by omega,by simp⟩⟩,((aae w.heap.size w).drew).alloc (aad _) _⟩
 clear hZ hZs hG uy Gw;go_enter func137,ntmps137;go_wp2_with (at_builtin;refine Lib.wpList_append_run _ rfl _ _ _ _ rfl _ _ rfl rfl _ _ (hap _) ?_)
 all_goals (go_ret;exact⟨G,rfl,HF.out.1,HF.out.2⟩)
def adX (l1 l2:List Int) (w:World) (e:Ending) (w':World):Prop:=∃v,e= .returned v/\aj w' w.heap.size v (l1++l2)/\Below w.heap.size w w'
theorem Fm (c:Nat) (a1 a2:Option Addr) (n1 n2 c1 c2:Nat) (l1 l2:List Int) (w:World) (h1:w.cell? ⟨c,0,none⟩=some (.slice a1 n1 c1)) (h2:w.cell? ⟨c,1,none⟩=some (.slice a2 n2 c2)) (mh:xT w a1 n1 c1 l1) (hl2:xT w a2 n2 c2 l2) (h0:0<n1+n2) (hn:n1+n2<=1000):
 Calls prog 91 #[.slice (some ⟨c,0,none⟩) 2 2] w (adX l1 l2 w):=by
 have TI:=ζ (K2 (n1+n2) w h0 hn);have oq:=ζ mh;have nu:=ζ hl2;have H1:=ζ h1;have H2:=ζ h2;have s1:IntKind.i64.wrap (n1:Int)=(n1:Int):=by rw[aam];omega
 have s2:IntKind.i64.wrap ((n1:Int)+(n2:Int))=(n1:Int)+(n2:Int):=by rw[aam];omega
 have s3:decide ((n1:Int)<0)=false:=by simp
 have s4:decide ((n1:Int)+(n2:Int)<0)=false:=by simp;omega
 have Ti:Hid (((n1+n2:Nat):Int)=(n1:Int)+(n2:Int)):=by show _=_;omega
 clear mh hl2;go_enter func91,ntmps91;go_wp2;go_loopw [3,11] (fun sv cv wr=>wr=w/\((cv= .int .i64 0/\sv= .int .i64 0)\/(cv= .int .i64 1/\sv= .int .i64 (n1:Int))\/(cv= .int .i64 2/\sv= .int .i64 ((n1:Int)+(n2:Int))))) (fun _ cv _=>2-(intOf cv).toNat)
 case atStart=>exact⟨rfl,.inl ⟨rfl,rfl⟩⟩
 case round=>
  obtain⟨hwr,cI⟩:=hrel;obtain rfl:=hwr.symm;clear hwr;rcases cI with ⟨rfl,rfl⟩|⟨rfl,rfl⟩|⟨rfl,rfl⟩
  .go_wp2
   go_roundw
   case rel=>exact⟨by first|rfl|trivial,.inr (.inl ⟨by first|rfl|go_num,by first|rfl|(simp;done)⟩)⟩
   case measure=>simp[intOf]
  .go_wp2
   go_roundw
   case rel=>exact⟨by first|rfl|trivial,.inr (.inr ⟨by first|rfl|go_num,by first|rfl|(simp;done)⟩)⟩
   case measure=>simp[intOf]
  .go_wp2_with (go_at_call 137;rw[<-Ti.out];refine TI.out.mono ?_;refine aaj ?_)
   refine ζ ?_;rintro e w1 ⟨cg,rfl,ho1,hb1⟩;have zX:=ζ ho1;have aI:=ζ hb1;clear ho1 hb1 h1 h2;go_wp2;go_loopw [6,27] (fun v cv wr=>Below w.heap.size w wr/\((cv= .int .i64 0/\aj wr w.heap.size v [])\/(cv= .int .i64 1/\aj wr w.heap.size v l1)\/(cv= .int .i64 2/\aj wr w.heap.size v (l1++l2)))) (fun _ cv _=>2-(intOf cv).toNat)
   case atStart=>exact⟨aI.out,.inl ⟨rfl,zX.out⟩⟩
   case round=>
    obtain⟨hb,cI⟩:=hrel;obtain⟨U,rfl⟩:∃U,U=wr:=⟨wr,rfl⟩;have HB:=ζ hb;have hs:=hb.size;have c1':=(hb.cell (p:=⟨c,0,none⟩) (block_lt_of_cell H1.out)).trans H1.out;have c2':=(hb.cell (p:=⟨c,1,none⟩) (block_lt_of_cell H2.out)).trans H2.out;have YV:=ζ (oq.out.later hb);have HU2:=ζ (nu.out.later hb);have g1:=oq.out.len;have g2:=nu.out.len;clear hb;rcases cI with ⟨rfl,ho⟩|⟨rfl,ho⟩|⟨rfl,ho⟩
    .have HO:=ζ ho
     have hlen:([]:List Int).length+l1.length<=17592186044000:=by simp;omega
     clear ho g1 g2;go_wp2_with (at_builtin;refine qg rfl _ _ rfl _ w.heap.size _ [] l1 HO.out a1 n1 c1 YV.out hs hlen rfl rfl ?_;refine aaj ?_);refine ζ ?_;intro v' w3 hr3 hb3;have jH:=ζ hr3;have aJ:=ζ (HB.out.trans hb3);clear hr3 hb3;go_wp2;go_roundw
     case rel=>exact⟨aJ.out,.inr (.inl ⟨by first|rfl|go_num,by have:=jH.out;simpa using this⟩)⟩
     case measure=>simp[intOf]
    .have HO:=ζ ho
     have hlen:l1.length+l2.length<=17592186044000:=by omega
     clear ho g1 g2;go_wp2_with (at_builtin;refine qg rfl _ _ rfl _ w.heap.size _ l1 l2 HO.out a2 n2 c2 HU2.out hs hlen rfl rfl ?_;refine aaj ?_);refine ζ ?_;intro v' w3 hr3 hb3;have jH:=ζ hr3;have aJ:=ζ (HB.out.trans hb3);clear hr3 hb3;go_wp2;go_roundw
     case rel=>exact⟨aJ.out,.inr (.inr ⟨by first|rfl|go_num,jH.out⟩)⟩
     case measure=>simp[intOf]
    .have HO:=ζ ho
     clear ho g1 g2;go_wp2;go_ret;exact⟨_,rfl,HO.out,HB.out⟩
end
section
open Go.Proofs.Tryz
open Go.RowKit Go.Sort Go.Maps
namespace Ku
def mg (R:List (List Int)) (L:List Int) (k:Nat):Bool:=(opn R R.length (gI L 0,gI L k)).isSome
def aL (R:List (List Int)) (L:List Int):Nat->List Int
 |0=>[]
 |k+1=>if mg R L k then aL R L k else aL R L k++[gI L k]
def bI (R:List (List Int)) (L:List Int):Nat->List Int
 |0=>[]
 |k+1=>if mg R L k then bI R L k++[gI L k] else bI R L k
theorem jw (R:List (List Int)) (L:List Int) (k:Nat):(aL R L k).length+(bI R L k).length=k:=by
 induction k with
 |zero=>rfl
 |succ k ih=>
  unfold aL bI
  split<;>simp<;>omega
def cin (x:Int) (F:List Int):Nat->List (Int×Int)
 |0=>[]
 |j+1=>cin x F j++[(x,gI F j)]
def cout (N F:List Int):Nat->List (Int×Int)
 |0=>[]
 |i+1=>cout N F i++cin (gI N i) F F.length
theorem yZ (x:Int) (F:List Int) (j:Nat):(cin x F j).length=j:=by
 induction j with
 |zero=>rfl
 |succ j ih=>simp[cin,ih]
theorem kN (N F:List Int) (i:Nat):(cout N F i).length=i*F.length:=by
 induction i with
 |zero=>simp[cout]
 |succ i ih=>
  unfold cout;rw[aar,yZ,ih,aed]
def S2 (B:Nat) (cs:List Value) (R:List (List Int)) (L:List Int) (q:Nat) (w:World) (e:Ending) (w':World):Prop:=
 ((aL R L q).length≠3/\e= .returned (.tuple #[jK,.bool false])/\Below w.heap.size w w')\/
 ((aL R L q).length=3/\∃bv,aj w' w.heap.size bv (aL R L q++bI R L q)/\(∀(b:Nat) (k v pv r:Value),bv.ownBlock=some b->e= .returned (.tuple #[.agg #[k,v,pv],r])->w.heap.size<=b/\pv.ownBlock≠some b)/\mM B cs R 2 bv (cout (aL R L q) (bI R L q) 3) w e w')
theorem jS {R:List (List Int)} {L:List Int} {k:Nat} (h:mg R L k=true):aL R L (k+1)=aL R L k/\bI R L (k+1)=bI R L k++[gI L k]:=by
 simp only[aL,bI];rw[if_pos h,if_pos h];exact⟨rfl,rfl⟩
theorem kI {R:List (List Int)} {L:List Int} {k:Nat} (h:mg R L k=false):aL R L (k+1)=aL R L k++[gI L k]/\bI R L (k+1)=bI R L k:=by
 have h':¬(mg R L k=true):=by rw[h];simp
 simp only[aL,bI];rw[if_neg h',if_neg h'];exact⟨rfl,rfl⟩
theorem rU {L:List Int} (h:∀x∈L,0<=x/\x<1048576) {k:Nat} (hk:k<L.length):0<=gI L k/\gI L k<1048576:=by
 obtain⟨x,hx⟩:∃x,L[k]? =some x:=⟨_,aac hk⟩;rw[bK hx];exact h x (aai hx)
end Ku
theorem Oo (B:Nat) (ca:Option Addr) (J cc mb nb:Nat) (cs:List Value) (R:List (List Int)) (bo:Option Addr) (q bc:Nat) (L:List Int) (w:World)
 (hJ:R.length=J) (hBw:B<=w.heap.size) (hR:ay w B (.slice ca J cc) cs R) (hS:Ku.Small R) (lM:Ku.OM w mb nb (Ku.opn R R.length)) (hmb:¬cC cs mb) (hq:L.length=q) (L6:q=6) (hL:aU w bo L) (Yy:∀x∈L,0<=x/\x<1048576)
 (hin:(Ku.aL R L q).length=3->∀p∈Ku.cout (Ku.aL R L q) (Ku.bI R L q) 3,fW (Ku.key p)) (hd:(Ku.aL R L q).length=3->∀(t t':Nat) (p p':Int×Int),t≠t'->(Ku.cout (Ku.aL R L q) (Ku.bI R L q) 3)[t]? =some p->(Ku.cout (Ku.aL R L q) (Ku.bI R L q) 3)[t']? =some p'->Ku.key p≠Ku.key p'):
 Calls prog 149 #[.agg #[.slice ca J cc,.map (some mb)],.slice bo q bc] w (Ku.S2 B cs R L q w):=by
 obtain⟨W1,hW1⟩:∃W1,W1=w.alloc (.cells #[.slice ca J cc,.map (some mb)] 248):=⟨_,rfl⟩;obtain⟨W,hW⟩:∃W,W=W1.alloc (.cells #[.int .i64 0,.slice none 0 0,.slice none 0 0] 82):=⟨_,rfl⟩;have hs1:W1.heap.size=w.heap.size+1:=by rw[hW1];simp
 have hB1:Below w.heap.size w W1:=by rw[hW1];exact(aae _ _).alloc (aad _) _
 have hB2:Below W1.heap.size W1 W:=by rw[hW];exact(aae _ _).alloc (aad _) _
 have hBW:Below w.heap.size w W:=hB1.trans (hB2.mono hB1.size);have g1:W.heap[w.heap.size]? =some (.cells #[.slice ca J cc,.map (some mb)] 248 (0,0)):=by
  rw[hB2.block _ (by omega),hW1];exact heap_alloc_new w _
 have g2:W.heap[w.heap.size+1]? =some (.cells #[.int .i64 0,.slice none 0 0,.slice none 0 0] 82 (0,0)):=by rw[hW,<-hs1];exact heap_alloc_new W1 _
 have UZ:w.heap.size+1<W.heap.size:=lt_of_block g2;have HW:Hid (W=(w.alloc (.cells #[.slice ca J cc,.map (some mb)] 248)).alloc (.cells #[.int .i64 0,.slice none 0 0,.slice none 0 0] 82)):=by rw[hW,hW1];exact ζ rfl
 have iE:Hid (∀b,cC cs b->b<w.heap.size):=fun b hb=>(hR.within (.inr hb)).2
 have gL:=ζ g1;have cZ:=ζ g2;have cH:=ζ hBW;have HL:=ζ hL;have HQ:=ζ hq;obtain⟨N,hN⟩:∃N,Ku.aL R L q=N:=⟨_,rfl⟩;obtain⟨F,hF⟩:∃F,Ku.bI R L q=F:=⟨_,rfl⟩;have hNF:N.length+F.length=q:=by rw[<-hN,<-hF];exact Ku.jw R L q
 have Zq:Hid (∀(U:World) (xa:Option Addr) (xn xc:Nat) (pa:Option Addr) (pn pc:Nat),N.length=3->pn=(Ku.cout N F 3).length->Below W.heap.size W U->ah U pa (Ku.cout N F 3)->(∀x,pa=some x->W.heap.size<=x.block)->Calls prog 213 #[.agg #[.slice ca J cc,.map (some mb)],.int .i64 2,.slice xa xn xc,.slice pa pn pc] U (Ku.mM B cs R 2 (.slice xa xn xc) (Ku.cout N F 3) U)):=fun U xa xn xc pa pn pc h3 DF hU hpa qG=>by
  have hbl:Below w.heap.size w U:=hBW.trans (hU.mono hBW.size);refine Av B ca J cc mb nb cs R 2 xa xn xc pa pn pc (Ku.cout N F 3) U hJ (aaD hBw hbl.size) (hR.later hbl) hS (lM.later hbl) hmb DF.symm ?_ hpa (fun x hx hi=> ?_) (by rw[<-hN,<-hF];exact hin (by rw[hN];exact h3)) (by rw[<-hN,<-hF];exact hd (by rw[hN];exact h3))
  .rw[DF,Ku.kN]
   omega
  .have h1:=qG x hx
   have h2:=iE.out _ hi;omega
 have ew:Hid (∀(U:World) (k:Nat),k<q->Below W.heap.size W U->(Instr.lookup 246 (.map (some mb)) (.agg #[.int .i64 (Ku.gI L 0),.int .i64 (Ku.gI L k)]) true).run prog U= .ok (.tuple #[.int .i64 (((Ku.opn R R.length (Ku.gI L 0,Ku.gI L k)).getD 0:Nat):Int),.bool (Ku.mg R L k)]) U):=fun U k hk hU=>by
  have a:=Ku.rU Yy (k:=0) (by omega);have b:=Ku.rU Yy (k:=k) (by omega);exact(lM.later (hBW.trans (hU.mono hBW.size))).Q3 (p:=(Ku.gI L 0,Ku.gI L k)) (by unfold fW;dsimp only;omega)
 have HN:=ζ hN;have HF:=ζ hF;have HQ6:=ζ L6;have pV:q<=6:=by omega
 have hqp:0<q:=by omega
 clear hW hW1 hs1 hB1 hB2 hBW g1 g2 hR hS lM hmb hq hL hin hd hJ Yy hN hF L6;go_enter func149,ntmps149;go_wp2_with fail;rw[<-HW.out];go_loopw [6,7,19] (fun nv fv cv wr=>∃(i:Nat),i<=q/\cv= .int .i64 (i:Int)/\aj wr W.heap.size nv (Ku.aL R L i)/\aj wr W.heap.size fv (Ku.bI R L i)/\(∀b,nv.ownBlock=some b->fv.ownBlock≠some b)/\Below W.heap.size W wr) (fun _ _ cv _=>q-(intOf cv).toNat)
 case atStart=>exact⟨0,aax _,rfl,aj.nil _ _,aj.nil _ _,fun b hb=>(by cases hb),aae _ _⟩
 case round=>
  obtain⟨i,hi,rfl,hno,hfo,hap,hb⟩:=hrel;obtain⟨U,rfl⟩:∃U,U=wr:=⟨wr,rfl⟩;have cG:=ζ hno;have Zz:=ζ hfo;have Nd:=ζ hap;have HB:=ζ hb;have hwi:IntKind.i64.wrap ((i:Int)+1)=(i:Int)+1:=by rw[aam];omega
  obtain⟨na,nc,hne,hni,-⟩:=hno.form;obtain⟨fa,fc,oM,mZ,-⟩:=hfo.form;have hnl:=Ku.jw R L i;obtain⟨kn,hkn⟩:∃kn,(Ku.aL R L i).length=kn:=⟨_,rfl⟩;obtain⟨kf,RY⟩:∃kf,(Ku.bI R L i).length=kf:=⟨_,rfl⟩;rw[hkn] at hne hnl;rw[RY] at oM hnl;subst hne;subst oM;have HKN:=ζ hkn;have HKF:=ζ RY;have HNI:=ζ hni;have uZ:=ζ mZ;have LU:=hb.size;clear hkn RY hap hni mZ;by_cases hlt:i<q
  .have aQ:(i:Int)<(q:Int):=by omega
   have mj:(0:Int)<=(i:Int):=by omega
   have Jm:(0:Int)<(q:Int):=by omega
   obtain⟨x,hx⟩:∃x,L[i]? =some x:=⟨_,aac (by rw[HQ.out];exact hlt)⟩;obtain⟨x0,hx0⟩:∃x,L[0]? =some x:=⟨_,aac (by rw[HQ.out];omega)⟩;have cm:Below w.heap.size w U:=cH.out.trans (hb.mono cH.out.size);obtain⟨b,o,rfl,e0⟩:=(HL.out.later cm) i x hx;obtain⟨_,_,ee,e1⟩:=(HL.out.later cm) 0 x0 hx0;cases ee;rw[abN] at e1;obtain⟨-,c1,-⟩:=af ((hb.block _ (by omega)).trans gL.out);have G6:=ζ (Ku.bK hx);obtain⟨jn,hjn⟩:∃jn,Ku.mg R L i=jn:=⟨_,rfl⟩;obtain⟨ci,sK⟩:∃ci,(((Ku.opn R R.length (Ku.gI L 0,Ku.gI L i)).getD 0:Nat):Int)=ci:=⟨_,rfl⟩;have hlk:∀D:LW U,(Instr.lookup 246 (.map (some mb)) (.agg #[.int .i64 x0,.int .i64 x]) true).run prog D.val= .ok (.tuple #[.int .i64 ci,.bool jn]) D.val:=fun D=>by
    have:=ew.out D.val i hlt (hb.trans (D.h.mono LU));rw[sK,hjn,Ku.bK hx,Ku.bK hx0] at this;exact this
   have d1:∀D:LW U,D.val.cell? ⟨b,o,none⟩=some (.int .i64 x0):=fun D=>(D.h.cell (p:=⟨b,o,none⟩) (block_lt_of_cell e1)).trans e1
   have d2:∀D:LW U,D.val.cell? ⟨w.heap.size,1,none⟩=some (.map (some mb)):=fun D=>(D.h.cell (p:=⟨w.heap.size,1,none⟩) (block_lt_of_cell c1)).trans c1
   have hne:=LW.any U;have TC:=ζ hjn;clear hno hfo hb hx hx0 cm sK hjn e1;go_wp2_with fail;refine aG (by kernel_rfl) (by kernel_rfl) ?_
   repeat (go_big_quiet_step (fail))
   refine wpQuiet_nil ?_;rintro _ ⟨E,rfl⟩;have bT:=ζ (HB.out.trans (E.h.mono LU));have sL:=ζ (cG.out.later E.h);have Qq:=ζ (Zz.out.later E.h);obtain⟨V,hV⟩:∃V,V=E.val:=⟨_,rfl⟩;rw[<-hV] at bT sL Qq ⊢;have LS:W.heap.size<=V.heap.size:=bT.out.size;clear d1 d2 hlk hne hV c1 e0;cases jn with
   |true=>
    obtain⟨hn1,qH⟩:=Ku.jS TC.out;rw[G6.out] at qH;have lZ:=ζ hn1;have M7:=ζ qH;have dW:(Ku.bI R L i).length<=17592186044000:=by rw[HKF.out];omega
    clear hn1 qH;go_wp2_with (at_builtin;refine bB rfl _ _ rfl _ W.heap.size _ _ x Qq.out LS dW rfl rfl ?_;refine aaj ?_);refine ζ ?_;intro v' w3 hr3 hg3 iC hb3;have jH:=ζ hr3;have aJ:=ζ (bT.out.trans hb3);have ry:Hid (aj w3 W.heap.size (.slice na kn nc) (Ku.aL R L i)):=sL.out.same fun g hg hl=>(hg3.block g (by simp;omega) (fun e=>Nd.out g hg e.symm)).trans (heap_alloc_old V _ hl)
    have ZI:Hid (∀b,(Value.slice na kn nc).ownBlock=some b->v'.ownBlock≠some b):=fun b hb e=>by
     rcases iC with h|h
     .exact Nd.out b hb (h▸e)
     .rw[h] at e
      cases e;have:=(aap sL.out _ hb).2;omega
    clear hr3 hg3 iC hb3;go_wp2;go_roundw
    case rel=>exact⟨i+1,by omega,by go_num,by rw[lZ.out];exact ry.out,by rw[M7.out];exact jH.out,ZI.out,aJ.out⟩
    case measure=>simp[intOf];omega
   |false=>
    obtain⟨hn1,qH⟩:=Ku.kI TC.out;rw[G6.out] at hn1;have lZ:=ζ hn1;have M7:=ζ qH;have dW:(Ku.aL R L i).length<=17592186044000:=by rw[HKN.out];omega
    clear hn1 qH;go_wp2_with (at_builtin;refine bB rfl _ _ rfl _ W.heap.size _ _ x sL.out LS dW rfl rfl ?_;refine aaj ?_);refine ζ ?_;intro v' w3 hr3 hg3 iC hb3;have jH:=ζ hr3;have aJ:=ζ (bT.out.trans hb3);have ry:Hid (aj w3 W.heap.size (.slice fa kf fc) (Ku.bI R L i)):=Qq.out.same fun g hg hl=>(hg3.block g (by simp;omega) (fun e=>Nd.out g e.symm hg)).trans (heap_alloc_old V _ hl)
    have ZI:Hid (∀b,v'.ownBlock=some b->(Value.slice fa kf fc).ownBlock≠some b):=fun b hb e=>by
     rcases iC with h|h
     .exact Nd.out b (h▸hb) e
     .rw[h] at hb
      cases hb;have:=(aap Qq.out _ e).2;omega
    clear hr3 hg3 iC hb3;go_wp2;go_roundw
    case rel=>exact⟨i+1,by omega,by go_num,by rw[lZ.out];exact jH.out,by rw[M7.out];exact ry.out,ZI.out,aJ.out⟩
    case measure=>simp[intOf];omega
  .have hdn:¬((i:Int)<(q:Int)):=by omega
   obtain rfl:i=q:=by omega
   have Sz:N.length=kn:=by rw[<-HN.out];exact HKN.out
   have SC:F.length=kf:=by rw[<-HF.out];exact HKF.out
   rw[HN.out] at cG;rw[HF.out] at Zz;rw[HN.out] at HNI;rw[HF.out] at uZ;have Tu:=ζ Sz;have wR:=ζ SC;clear hno hfo Sz SC;by_cases h3:kn=3
   .have t3:((kn:Int) != 3)=false:=by simp[h3]
    have hk3:kn<=3:=by omega
    have Zr:=ζ h3;clear h3;go_wp2_with fail;go_loopw [12,50] (fun pv cv wr=>∃(i:Nat),i<=kn/\cv= .int .i64 (i:Int)/\kA wr U.heap.size pv (Ku.cout N F i)/\Below U.heap.size U wr) (fun _ cv _=>kn-(intOf cv).toNat)
    case atStart=>exact⟨0,aax _,rfl,kA.nil _ _,aae _ _⟩
    case round=>
     rename_i iq _ _ _ _
     obtain⟨p,hp,rfl,hown,zN⟩:=hrel;obtain⟨V,rfl⟩:∃V,V=wr:=⟨wr,rfl⟩;have HO:=ζ hown;have He:=ζ zN;have LS:=zN.size;have hwp:IntKind.i64.wrap ((p:Int)+1)=(p:Int)+1:=by rw[aam];omega
     obtain⟨pa,pc,mW,hpat,qG⟩:=hown.form;by_cases hlt:p<kn
     .have aQ:(p:Int)<(kn:Int):=by omega
      have Po:(0:Int)<=(p:Int):=by omega
      obtain⟨x,hx⟩:∃x,N[p]? =some x:=⟨_,aac (by rw[Tu.out];exact hlt)⟩;obtain⟨b,o,rfl,e0⟩:=(HNI.out.later zN) p x hx;have G6:=ζ (Ku.bK hx);clear hown mW hpat qG zN hx;go_wp2_with fail;go_loopw [12,56] (fun pv cv wr=>∃(j:Nat),j<=kf/\cv= .int .i64 (j:Int)/\kA wr U.heap.size pv (Ku.cout N F p++Ku.cin (Ku.gI N p) F j)/\Below U.heap.size U wr) (fun _ cv _=>kf-(intOf cv).toNat)
      case atStart=>exact⟨0,aax _,rfl,by rw[show Ku.cin (Ku.gI N p) F 0=[] from rfl,abQ];exact HO.out,He.out⟩
      case round=>
       obtain⟨j,hj,rfl,hown,hb2⟩:=hrel;obtain⟨X,rfl⟩:∃X,X=wr:=⟨wr,rfl⟩;have kQ:=ζ hown;have aB:=ζ hb2;have hs2:=hb2.size;have UC:IntKind.i64.wrap ((j:Int)+1)=(j:Int)+1:=by rw[aam];omega
       by_cases hjl:j<kf
       .have aa8:(j:Int)<(kf:Int):=by omega
        have hj0:(0:Int)<=(j:Int):=by omega
        obtain⟨y,hy⟩:∃y,F[j]? =some y:=⟨_,aac (by rw[wR.out];exact hjl)⟩;obtain⟨b',o',rfl,e1⟩:=(uZ.out.later hb2) j y hy;have gS:Hid (Ku.cout N F p++Ku.cin (Ku.gI N p) F (j+1)=Ku.cout N F p++Ku.cin (Ku.gI N p) F j++[(x,y)]):=by
         show _=_;rw[aaR]
         congr 1
         show Ku.cin (Ku.gI N p) F j++[(Ku.gI N p,Ku.gI F j)]=_;rw[G6.out,Ku.bK hy]
        have dW:(Ku.cout N F p++Ku.cin (Ku.gI N p) F j).length<=8796093022000:=by
         rw[aar,Ku.yZ,Ku.kN,wR.out];have h2:p*kf<=6*6:=ad2 (by omega) (by omega);omega
        clear hown hb2 hy;go_wp2_with (at_builtin;refine sX rfl _ _ rfl _ U.heap.size _ _ x y kQ.out hs2 dW rfl rfl ?_;refine aaj ?_);refine ζ ?_;intro v' w3 hrow3 hb3;have jH:=ζ hrow3;have aJ:=ζ (aB.out.trans hb3);clear hrow3 hb3;go_wp2;go_roundw
        case rel=>exact⟨j+1,by omega,by go_num,by rw[gS.out];first|exact jH.out|(rw[aaR];exact jH.out),aJ.out⟩
        case measure=>simp[intOf];omega
       .have hdj:¬((j:Int)<(kf:Int)):=by omega
        obtain rfl:j=kf:=by omega
        have HN9:Hid (Ku.cout N F (p+1)=Ku.cout N F p++Ku.cin (Ku.gI N p) F j):=by
         show _=_;rw[show Ku.cout N F (p+1)=Ku.cout N F p++Ku.cin (Ku.gI N p) F F.length from rfl,wR.out]
        clear hown hb2;go_wp2;go_roundw
        case rel=>exact⟨p+1,by omega,by go_num,by rw[HN9.out];exact kQ.out,aB.out⟩
        case measure=>simp[intOf];omega
     .have hdp:¬((p:Int)<(kn:Int)):=by omega
      obtain rfl:p=kn:=by omega
      have hpk:=Zr.out;rw[hpk] at mW hpat;have hbW:Below W.heap.size W V:=hb.trans (zN.mono LU);have fY:=ζ hbW;have Sz:=Tu.out;have SC:=wR.out;have HPB:Hid (∀x,pa=some x->W.heap.size<=x.block):=fun x hx=>by have:=(qG x hx).1;omega
      have TP:Hid (∀(ty:TypeId) (Y:World),Below V.heap.size V Y->Y.heap[V.heap.size]? =some (.cells #[.slice na p nc,.slice fa kf fc] ty (0,0))->Calls prog 91 #[.slice (some ⟨V.heap.size,0,none⟩) 2 2] Y fun e u=>∃xa xn xc,e= .returned (.slice xa xn xc)/\aj u V.heap.size (.slice xa xn xc) (N++F)/\Below V.heap.size V u/\ah u pa (Ku.cout N F 3)/\Below W.heap.size W u):=fun ty Y hY hbl=>by
       obtain⟨k0,k1,-⟩:=af hbl;obtain⟨a1,d1,g1,g2,-⟩:=aj.sD (cG.out.later (zN.trans (hY.mono LS)));obtain⟨a2,d2,g3,g4,-⟩:=aj.sD (Zz.out.later (zN.trans (hY.mono LS)));rw[Sz] at g1 g2;rw[SC] at g3 g4;cases g1;cases g3;refine(Fm V.heap.size na fa p kf nc fc N F Y k0 k1 g2 g4 (by omega) (by omega)).mono ?_;rintro e u ⟨v,rfl,ho,hbu⟩;have Ym:Below V.heap.size V u:=hY.trans (hbu.mono hY.size);obtain⟨xa,xc,bZ,-,-⟩:=ho.form;subst bZ;exact⟨_,_,_,rfl,ho.lower hY.size,Ym,hpat.later Ym,hbW.trans (Ym.mono hbW.size)⟩
      obtain⟨pn,DF⟩:∃pn,(Ku.cout N F 3).length=pn:=⟨_,rfl⟩;rw[DF] at mW;subst mW;have KI:Hid (pn=(Ku.cout N F 3).length):=DF.symm;have Tv:Hid (N.length=3):=Tu.out.trans Zr.out;obtain⟨c0,c1,-⟩:=af ((hbW.block _ (by omega)).trans gL.out);have D7:Hid (∀Y:World,Below V.heap.size V Y->Y.cell? ⟨w.heap.size,0,none⟩=some (.slice ca J cc)/\Y.cell? ⟨w.heap.size,1,none⟩=some (.map (some mb))):=fun Y hY=>by
       obtain⟨c0,c1,-⟩:=af ((hY.block _ (by omega)).trans ((hbW.block _ (by omega)).trans gL.out));exact⟨c0,c1⟩
      have D6:Hid (∀(u e u2:_),Below V.heap.size V u->∀bv,Ku.mM B cs R 2 bv (Ku.cout N F 3) u e u2->u2.heap[w.heap.size]? =some (.cells #[.slice ca J cc,.map (some mb)] 248 (0,0))/\u2.heap[w.heap.size+1]? =some (.cells #[.int .i64 0,.slice none 0 0,.slice none 0 0] 82 (0,0))):=fun u e u2 hu bv hk=>by
       have:=hu.size;exact⟨(hk.2.block _ (by omega) (fun h=>by have:=iE.out _ h;omega)).trans ((hu.block _ (by omega)).trans ((hbW.block _ (by omega)).trans gL.out)),(hk.2.block _ (by omega) (fun h=>by have:=iE.out _ h;omega)).trans ((hu.block _ (by omega)).trans ((hbW.block _ (by omega)).trans cZ.out))⟩
      have GV:Hid (∀(u2:World) (x y z:Value),u2.heap[w.heap.size]? =some (.cells #[.slice ca J cc,.map (some mb)] 248 (0,0))->(((u2.setCell ⟨w.heap.size+1,0,none⟩ x).setCell ⟨w.heap.size+1,1,none⟩ y).setCell ⟨w.heap.size+1,2,none⟩ z).cell? ⟨w.heap.size,0,none⟩=some (.slice ca J cc)/\(((u2.setCell ⟨w.heap.size+1,0,none⟩ x).setCell ⟨w.heap.size+1,1,none⟩ y).setCell ⟨w.heap.size+1,2,none⟩ z).cell? ⟨w.heap.size,1,none⟩=some (.map (some mb))):=fun u2 x y z h=>by
       have hne:w.heap.size≠w.heap.size+1:=by omega
       have e:(((u2.setCell ⟨w.heap.size+1,0,none⟩ x).setCell ⟨w.heap.size+1,1,none⟩ y).setCell ⟨w.heap.size+1,2,none⟩ z).heap[w.heap.size]? =some (.cells #[.slice ca J cc,.map (some mb)] 248 (0,0)):=by
        rw[heap_setCell_other _ ⟨w.heap.size+1,2,none⟩ _ _ hne,heap_setCell_other _ ⟨w.heap.size+1,1,none⟩ _ _ hne,heap_setCell_other _ ⟨w.heap.size+1,0,none⟩ _ _ hne];exact h
       obtain⟨c0,c1,-⟩:=af e;exact⟨c0,c1⟩
      have Th:=D7.out V (aae _ _);have gJ:=D7.out V.drew (aae _ _).drew;clear hown hpat qG zN hb hbW DF Sz SC hpk c0 c1;go_wp2_with fail
      go_region_held3 (fun Y=>Y.cell? ⟨w.heap.size,0,none⟩=some (.slice ca J cc)/\Y.cell? ⟨w.heap.size,1,none⟩=some (.map (some mb)))
       (first|exact Th|exact gJ|exact hS1|exact B9|exact GV.out _ _ _ _ m1|exact D7.out _ ((aae _ _).alloc (aad _) _)|exact D7.out _ ((aae _ _).alloc (aad _) _).drew|exact D7.out _ ((aae _ _).drew.alloc (aad _) _))
       (first
         |(go_at_call 91;(first|refine(TP.out _ _ ((aae _ _).alloc (aad _) _) (heap_alloc_new V _)).mono ?_|refine(TP.out _ _ ((aae _ _).drew.alloc (aad _) _) (heap_alloc_new V.drew _)).mono ?_|refine(TP.out _ _ ((aae _ _).alloc (aad _) _).drew (heap_alloc_new V _)).mono ?_);rintro e u1 ⟨xa,xn,xc,rfl,ho1,hb1,hE1,hW1⟩;have hS1:=D7.out u1 hb1)
         |(go_at_call 213;refine(Zq.out u1 xa xn xc pa pn pc Tv.out KI.out hW1 hE1 HPB.out).mono ?_;intro e u2 hkp;obtain⟨m1,m2⟩:=D6.out u1 e u2 hb1 _ hkp;have B9:=(fun (h:u2.heap[w.heap.size]? =some (.cells #[.slice ca J cc,.map (some mb)] 248 (0,0)))=>And.intro (af h).1 (af h).2.1) m1;obtain⟨z0,z1,z2,zf⟩:=aO m2;have hf0:=zf 0;have qH:=zf 1;have hf2:=zf 2;obtain⟨y1,s1,s2,s3,q1,q2,q3,r,rfl⟩:=hkp.shape))
      have hsu:=hb1.size;have D8:Hid (∀x y z:Value,aj (((u2.setCell ⟨w.heap.size+1,0,none⟩ x).setCell ⟨w.heap.size+1,1,none⟩ y).setCell ⟨w.heap.size+1,2,none⟩ z) w.heap.size (.slice xa xn xc) (N++F)):=fun x y z=>(ho1.lower (by omega)).same fun g hg hl=>by
       have h1:=(aap ho1 _ hg).1;have hne:g≠w.heap.size+1:=by omega
       rw[heap_setCell_other _ ⟨w.heap.size+1,2,none⟩ g _ hne,heap_setCell_other _ ⟨w.heap.size+1,1,none⟩ g _ hne,heap_setCell_other _ ⟨w.heap.size+1,0,none⟩ g _ hne];exact hkp.2.block g hl (fun h=>by have:=iE.out _ h;omega)
      have C2:=ζ (fun x y z:Value=>hkp.far (w:=w) (V:=((u2.setCell ⟨w.heap.size+1,0,none⟩ x).setCell ⟨w.heap.size+1,1,none⟩ y).setCell ⟨w.heap.size+1,2,none⟩ z) (cH.out.trans (hW1.mono cH.out.size)) (c:=w.heap.size+1) ⟨by omega,by omega⟩ iE.out (fun b hb=>by rw[heap_setCell_other _ ⟨w.heap.size+1,2,none⟩ b _ hb,heap_setCell_other _ ⟨w.heap.size+1,1,none⟩ b _ hb,heap_setCell_other _ ⟨w.heap.size+1,0,none⟩ b _ hb]) (by simp) rfl rfl rfl);have adO:Hid (∀(b:Nat) (k v pv r':Value),(Value.slice xa xn xc).ownBlock=some b->Ending.returned (.tuple #[.agg #[.int .i64 y1,.slice s1 s2 s3,.slice q1 q2 q3],.bool r])= .returned (.tuple #[.agg #[k,v,pv],r'])->w.heap.size<=b/\pv.ownBlock≠some b):=fun b k v pv r' hb he=>by
       have hlt:=aap ho1 _ hb;refine⟨by omega,fun e=> ?_⟩;rcases hkp.1 with ⟨_,h⟩|⟨_,pv2,vs2,h,_,h3,_⟩
       .rw[h] at he
        unfold Ku.jK at he;cases he;cases e
       .rw[h] at he
        cases he;have:=h3 b e;omega
      have uW:Hid ((Ku.aL R L i).length=3):=by rw[HN.out,Tu.out];exact Zr
      clear hkp ho1 hb1 hE1 hW1 m1 m2 zf hS1 B9 Th gJ;go_wp2;refine bodyPost_ret (eO rfl rfl _ _ (w.heap.size+1) _ _ _ _ rfl rfl (au z0 z1 z2 _ _ _).1 (au z0 z1 z2 _ _ _).2.1 (au z0 z1 z2 _ _ _).2.2) rfl ?_;exact .inr ⟨uW.out,_,by rw[HN.out,HF.out];exact D8.out _ _ _,adO.out,by rw[HN.out,HF.out];exact C2.out _ _ _⟩
   .have t3:((kn:Int) != 3)=true:=by simp;omega
    have acS:Hid ((Ku.aL R L i).length≠3):=by rw[HN.out,Tu.out];exact ζ h3
    obtain⟨z0,z1,z2,zf⟩:=aO ((hb.block _ (by omega)).trans cZ.out);have hf0:=zf 0;have qH:=zf 1;have hf2:=zf 2;have G9:Hid (∀x y z:Value,Below w.heap.size w (((U.setCell ⟨w.heap.size+1,0,none⟩ x).setCell ⟨w.heap.size+1,1,none⟩ y).setCell ⟨w.heap.size+1,2,none⟩ z)):=fun x y z=>bO (cH.out.trans (hb.mono cH.out.size)) (by omega) x y z
    clear zf hb h3;go_wp2;refine bodyPost_ret (eO rfl rfl _ _ (w.heap.size+1) _ _ _ _ rfl rfl (au z0 z1 z2 _ _ _).1 (au z0 z1 z2 _ _ _).2.1 (au z0 z1 z2 _ _ _).2.2) rfl ?_;exact .inl ⟨acS.out,rfl,G9.out _ _ _⟩
end
end Go.Proofs.YtdbjpbjocmcpkaaGreatDoor
