import Derived.Test.YtbhdibflpjhpaaaGreatMg23
set_option maxHeartbeats 8000000
set_option maxRecDepth 100000
namespace Go.Proofs.YtbhdibflpjhpaaaGreat
section
open Go.RowKit Lt
def ZM (c:Wp) (p:Nat) (w:World) (e:Ending) (w':World):Prop:=∃t L U Z,e= .returned (.pointer (some ⟨t,0,none⟩))/\aS c p t w (fun b=>b=t\/b=L\/b=U\/b=Z) (Lt.start c.es.length) L U Z (.slice none 0 0) (.slice none 0 0) w'
theorem Dp {c:Wp} {p:Nat} {w:World} (h:dG c p w):Calls Tryz.prog 34 #[.pointer (some ⟨p,0,none⟩)] w (ZM c p w):=by
 have dH:=h.val.few;have x5:=h.c5;have HS:=ζ (Fc c.es.length (by omega) w);have HR:Hid (∀(x:Int) (b:Nat) (W:World),af W b [x]->Calls Tryz.prog 52 #[.slice (some ⟨b,0,none⟩) 1 1,.int .i64 (c.es.length:Int)] W (EK x c.es.length W)):=fun x b W h=>AG x c.es.length b 1 (by omega) W h
 have sI:=ζ h;clear h dH;go_enter Tryz.func34,Tryz.ntmps34;go_wp2_with (go_at_call 51;refine HS.out.mono ?_;rintro e W2 ⟨L,U,rfl,i1,i2,l1,l2,l3,b2⟩;have qZ:=ζ i1;have iM:=ζ i2;have HL:=ζ (And.intro l1 (And.intro l2 l3));have cj:=ζ b2;clear i1 i2 l1 l2 l3 b2;have FB:=ζ (HR.out (-1) W2.heap.size (W2.alloc (.cells #[.int .i64 (-1)] 3)) (heap_alloc_new W2 _)));go_at_call 52;refine FB.out.mono ?_;rintro e W4 ⟨Z,rfl,i3,l4,b4⟩;have EY:=ζ i3;have HL4:=ζ l4;have iE:=ζ b4;clear i3 l4 b4 FB;simp only[];go_wp2;go_ret;obtain⟨l1,l2,l3⟩:=HL.out;have l4:W2.heap.size+1<=Z:=by have:=HL4.out;simpa using this
 have b4:Below W2.heap.size W2 W4:=((aae _ _).alloc (aad _) _).trans (iE.out.mono (by simp));have s2:=cj.out.size;have s4:=b4.size;have z1:=qZ.out.lt;have z2:=iM.out.lt;have z3:=EY.out.lt;have bb:Below w.heap.size w W4:=cj.out.trans (b4.mono s2);have b5:∀o,Below W4.heap.size W4 (W4.alloc o):=fun o=>(aae _ _).alloc (aad _) o
 have hsz:∀o,(W4.alloc o).heap.size=W4.heap.size+1:=fun o=>by simp
 refine⟨W4.heap.size,L,U,Z,rfl,sI.out,bb.trans ((b5 _).mono bb.size),heap_alloc_new W4 _,(qZ.out.later b4).later (b5 _),(iM.out.later b4).later (b5 _),EY.out.later (b5 _),by simp[Lt.start],by simp[Lt.start],by simp[Lt.start],dZ.nil _ _,dZ.nil _ _,.inl rfl,.inr (.inl rfl),.inr (.inr (.inl rfl)),.inr (.inr (.inr rfl)),(fun b hb=>by cases hb),(fun b hb=>by cases hb),?_,?_,?_,(fun b hb=>by cases hb),(fun b hb=>by cases hb),(fun b hb=>by cases hb)⟩
 .rintro b (rfl|rfl|rfl|rfl)<;>omega
 .rintro b (rfl|rfl|rfl|rfl)<;>rw[hsz]<;>omega
 .refine⟨?_,?_,?_,?_,?_,?_⟩<;>omega
end
section
open Go.Proofs.Tryz
open Go.RowKit
def Aj (av:Value) (n m:Nat) (w:World) (e:Ending) (w':World):Prop:=
 ∃p gp gh go gr,e= .returned (.pointer (some ⟨p,0,none⟩))/\w'.heap[p]? =some (.cells #[av,.slice (some ⟨gp,0,none⟩) n n,.slice (some ⟨gh,0,none⟩) n n,.slice (some ⟨go,0,none⟩) 0 n,.slice (some ⟨gr,0,none⟩) m m,.slice none 0 0] 100 (0,0))/\
  af w' gp (List.replicate n (-1))/\af w' gh (List.replicate n (-1))/\af w' gr (List.replicate m (-1))/\af w' go (List.replicate n 0)/\
  (w.heap.size<=p/\w.heap.size<=gp/\w.heap.size<=gh/\w.heap.size<=go/\w.heap.size<=gr)/\(p≠gp/\p≠gh/\p≠go/\p≠gr/\gp≠gh/\gp≠go/\gp≠gr/\gh≠go/\gh≠gr/\go≠gr)/\Below w.heap.size w w'
theorem Dn (av:Value) (n:Nat) (es:List (Int×Int)) (w:World) (h:bK w av n es):
 Calls prog 47 #[av] w (Aj av n es.length w):=by
 obtain⟨i0,hi,hz0,hz1,hz2⟩:=info_parts Tryz.cM;obtain⟨hb1,hb2⟩:=h.bounds;have kT:∃q,av= .pointer q:=by
  rcases h with ⟨h,_⟩|⟨_,p,h,_⟩
  .exact⟨_,h⟩
  .exact⟨_,h⟩
 obtain⟨q,rfl⟩:=kT;have hN:∀V,Below w.heap.size w V->Calls prog 24 #[.pointer q] V fun e V'=>e= .returned (.int .i64 (n:Int))/\V'=V:=fun V hV=>mE _ n es V (h.later hV)
 have hM:∀V,Below w.heap.size w V->Calls prog 26 #[.pointer q] V fun e V'=>e= .returned (.int .i64 (es.length:Int))/\V'=V:=fun V hV=>yS _ n es V (h.later hV)
 have hU:∀V (k:Nat),k<=8388608->Calls prog 60 #[.int .i64 (k:Int)] V fun e V'=>∃g,e= .returned (.slice (some ⟨g,0,none⟩) k k)/\V.heap.size<=g/\af V' g (List.replicate k (-1))/\Below V.heap.size V V':=fun V k hk=>CE k V hk
 have hmk:∀W,(Instr.makeSlice 27 (.int .i64 0) (.int .i64 (n:Int))).run prog W= .ok (.slice (some ⟨W.heap.size,0,none⟩) 0 n) (W.alloc (.cells (madeCells #[.int .i64 0] n) 3)):=fun W=>by
  have:=run_make (P:=prog) W 27 3 i0 (.int .i64 0) Tryz.underlying27 hi hz0 .i64 .i64 0 (n:Int) (by omega) (by omega) (by rw[hz2];omega) (by omega);rw[this,hz1];simp[Value.cells]
 obtain⟨m,hm⟩:∃m,es.length=m:=⟨_,rfl⟩;rw[hm] at hM hb2 ⊢;have HN:=ζ hN;have HM:=ζ hM;have HU:=ζ hU;have hbd:Below w.heap.size w w.drew:=(aae _ _).drew;clear hN hM hU h hm;go_enter func47,ntmps47;go_wp2_with fail
 go_region_held3 (fun V=>Below w.heap.size w V) (first|assumption|exact hbd|exact Below.alloc (by first|assumption|exact hbd) (ad9 (by first|assumption|exact hbd)) _)
  ((first
    |(go_at_call 24;refine(HN.out _ (by first|assumption|exact hbd)).mono ?_;rintro e V1 ⟨rfl,rfl⟩)
    |(go_at_call 26;refine(HM.out _ (by first|assumption|exact hbd)).mono ?_;rintro e V1 ⟨rfl,rfl⟩)
    |(go_at_call 60;refine(HU.out _ _ (by omega)).mono ?_;rintro e V2 ⟨g,rfl,hg1,hg2,hv2⟩;have hb2:Below w.heap.size w V2:=aeh (by first|assumption|exact hbd) (hv2.mono (ad9 (by first|assumption|exact hbd))))))
 all_goals
  clear HN HM HU hmk;go_wp2;go_ret
 all_goals
  rename_i bA gA h1A VA h2A h3A h4A gB h1B h2B h3B h4B hZ
  have s1:=h3A.size;have s2:=h3B.size;have s3:=hv2.size;have l1:=h2A.lt;have l2:=h2B.lt;have l3:=hg2.lt;have u1:=h1A;have u3:=hg1;have hwd:w.drew.heap.size=w.heap.size:=rfl;simp only[acC,hwd] at s1 s2 s3 u1 u3;refine⟨_,gA,gB,_,g,rfl,alloc_at (by simp),?_,?_,?_,?_,?_,?_,hZ⟩
  .repeat (first|exact h2A|refine af.later ?_ hv2|refine af.later ?_ h3B|refine af.alloc ?_ _)
  .repeat (first|exact h2B|refine af.later ?_ hv2|refine af.alloc ?_ _)
  .repeat (first|exact hg2|refine af.alloc ?_ _)
  .repeat (first|(refine vq ?_;simp;done)|refine af.later ?_ hv2|refine af.alloc ?_ _)
  .try simp only[acC]
   refine⟨?_,?_,?_,?_,?_⟩<;>omega
  .try simp only[acC]
   refine⟨?_,?_,?_,?_,?_,?_,?_,?_,?_,?_⟩<;>omega
end
section
open Go.RowKit
abbrev B6 (av:Value) (gp gh gr n m:Nat) (ov sv:Value):Array Value:= #[av,.slice (some ⟨gp,0,none⟩) n n,.slice (some ⟨gh,0,none⟩) n n,ov,.slice (some ⟨gr,0,none⟩) m m,sv]
structure aL (w0 w:World) (p gp gh gr:Nat) (av ov sv:Value) (n m:Nat) (s:Df.St) (K:List Int):Prop where
 aZ:Below w0.heap.size w0 w
 blk:w.heap[p]? =some (.cells (B6 av gp gh gr n m ov sv) 100 (0,0))
 ip:af w gp s.par
 ih:af w gh s.ay
 ir:af w gr s.aT
 ow:aH w w0.heap.size ov s.ord
 sw:aH w w0.heap.size sv K
 lo:w0.heap.size<=p/\w0.heap.size<=gp/\w0.heap.size<=gh/\w0.heap.size<=gr
 ne:p≠gp/\p≠gh/\p≠gr/\gp≠gh/\gp≠gr/\gh≠gr
 oO:ov.ownBlock≠some p/\ov.ownBlock≠some gp/\ov.ownBlock≠some gh/\ov.ownBlock≠some gr
 sf:sv.ownBlock≠some p/\sv.ownBlock≠some gp/\sv.ownBlock≠some gh/\sv.ownBlock≠some gr
 os:∀b,ov.ownBlock=some b->sv.ownBlock≠some b
section
variable {w0 w w':World} {p gp gh gr:Nat} {av ov sv:Value} {n m:Nat} {s:Df.St} {K:List Int}
theorem aL.c0 (h:aL w0 w p gp gh gr av ov sv n m s K):w.cell? ⟨p,0,none⟩=some av:=by simp[World.cell?,h.blk]
theorem aL.c1 (h:aL w0 w p gp gh gr av ov sv n m s K):w.cell? ⟨p,1,none⟩=some (.slice (some ⟨gp,0,none⟩) n n):=by simp[World.cell?,h.blk]
theorem aL.c2 (h:aL w0 w p gp gh gr av ov sv n m s K):w.cell? ⟨p,2,none⟩=some (.slice (some ⟨gh,0,none⟩) n n):=by simp[World.cell?,h.blk]
theorem aL.c3 (h:aL w0 w p gp gh gr av ov sv n m s K):w.cell? ⟨p,3,none⟩=some ov:=by simp[World.cell?,h.blk]
theorem aL.c4 (h:aL w0 w p gp gh gr av ov sv n m s K):w.cell? ⟨p,4,none⟩=some (.slice (some ⟨gr,0,none⟩) m m):=by simp[World.cell?,h.blk]
theorem aL.lt (h:aL w0 w p gp gh gr av ov sv n m s K):p<w.heap.size:=lt_of_block h.blk
theorem aL.later (h:aL w0 w p gp gh gr av ov sv n m s K) (hb:Below w.heap.size w w'):aL w0 w' p gp gh gr av ov sv n m s K:=
 ⟨h.aZ.trans (hb.mono h.aZ.size),(hb.block p h.lt).trans h.blk,h.ip.later hb,h.ih.later hb,h.ir.later hb,h.ow.later hb,h.sw.later hb,h.lo,h.ne,h.oO,h.sf,h.os⟩
theorem aL.stk (h:aL w0 w p gp gh gr av ov sv n m s K):ji w p 5 (B6 av gp gh gr n m ov sv) 100 w0.heap.size sv K:=⟨h.blk,rfl,h.sw,h.sf.1⟩
theorem aL.Yv (h:aL w0 w p gp gh gr av ov sv n m s K) (v:Nat) (x:Int):aL w0 (w.setCell ⟨gp,v,none⟩ (.int .i64 x)) p gp gh gr av ov sv n m { s with par:=s.par.set v x } K:=
 ⟨h.aZ.setCell (p:=⟨gp,v,none⟩) h.lo.2.1 _,(mh h.ne.1 _).trans h.blk,h.ip.set v x,h.ih.bO (aao h.ne.2.2.2.1) _,h.ir.bO (aao h.ne.2.2.2.2.1) _,h.ow.bO h.oO.2.1 _,h.sw.bO h.sf.2.1 _,h.lo,h.ne,h.oO,h.sf,h.os⟩
theorem aL.Yw (h:aL w0 w p gp gh gr av ov sv n m s K) (v:Nat) (x:Int):aL w0 (w.setCell ⟨gh,v,none⟩ (.int .i64 x)) p gp gh gr av ov sv n m { s with ay:=s.ay.set v x } K:=
 ⟨h.aZ.setCell (p:=⟨gh,v,none⟩) h.lo.2.2.1 _,(mh h.ne.2.1 _).trans h.blk,h.ip.bO h.ne.2.2.2.1 _,h.ih.set v x,h.ir.bO (aao h.ne.2.2.2.2.2) _,h.ow.bO h.oO.2.2.1 _,h.sw.bO h.sf.2.2.1 _,h.lo,h.ne,h.oO,h.sf,h.os⟩
theorem aL.PE (h:aL w0 w p gp gh gr av ov sv n m s K) (v:Nat) (x:Int):aL w0 (w.setCell ⟨gr,v,none⟩ (.int .i64 x)) p gp gh gr av ov sv n m { s with aT:=s.aT.set v x } K:=
 ⟨h.aZ.setCell (p:=⟨gr,v,none⟩) h.lo.2.2.2 _,(mh h.ne.2.2.1 _).trans h.blk,h.ip.bO h.ne.2.2.2.2.1 _,h.ih.bO h.ne.2.2.2.2.2 _,h.ir.set v x,h.ow.bO h.oO.2.2.2 _,h.sw.bO h.sf.2.2.2 _,h.lo,h.ne,h.oO,h.sf,h.os⟩
theorem aL.Yz {w1:World} {kJ:Value} {x:Int} {tmp:Obj} (h:aL w0 w p gp gh gr av ov sv n m s K) (hown:aH w1 w0.heap.size kJ (s.ord++[x])) (hg:(w.alloc tmp).grownBy w1 ov.ownBlock) (hat:kJ.ownBlock=ov.ownBlock\/kJ.ownBlock=some (w.heap.size+1)):
 aL w0 (w1.setCell ⟨p,3,none⟩ kJ) p gp gh gr av kJ sv n m { s with ord:=s.ord++[x] } K/\w1.cell? ⟨p,3,none⟩=some ov/\w1.frozen? ⟨p,3,none⟩=false/\w1.heap[p]? =w.heap[p]? :=by
 have keep:∀b,b<w.heap.size->ov.ownBlock≠some b->w1.heap[b]? =w.heap[b]? :=fun b hb hne=>by
  rw[hg.block b (by rw[acC];omega) (fun e=>hne e.symm)];exact ab2 w tmp b hb
 have hp:=keep p h.lt h.oO.1;have kQ:=hp.trans h.blk;have hsz:w.heap.size<=w1.heap.size:=by
  have:=hg.size;rw[acC] at this;omega
 have hB:=h.aZ.size;have hnew:∀b,b<w.heap.size->ov.ownBlock≠some b->kJ.ownBlock≠some b:=fun b hb hne e=>by
  rcases hat with e1|e1
  .exact hne (e1.symm.trans e)
  .rw[e1] at e
   have:=aal e;omega
 have hfp:=hnew p h.lt h.oO.1;refine⟨⟨?_,?_,?_,?_,?_,?_,?_,h.lo,h.ne,⟨hfp,hnew gp h.ip.lt h.oO.2.1,hnew gh h.ih.lt h.oO.2.2.1,hnew gr h.ir.lt h.oO.2.2.2⟩,h.sf,fun b hb hs=> ?_⟩,by simp[World.cell?,kQ],by simp[World.frozen?,kQ],hp⟩
 .have hb1:Below w0.heap.size w w1:=⟨hg.os,hg.tape,hg.output,hsz,fun k hk=>keep k (by omega) (fun e=>by have:=(h.ow.lt e).1;omega)⟩
  exact(h.aZ.trans hb1).setCell (p:=⟨p,3,none⟩) h.lo.1 _
 .rw[heap_setCell_same w1 p 3 _ _ _ kQ]
  rfl
 .exact af.bO ((keep gp h.ip.lt h.oO.2.1).trans h.ip) (aao h.ne.1) _
 .exact af.bO ((keep gh h.ih.lt h.oO.2.2.1).trans h.ih) (aao h.ne.2.1) _
 .exact af.bO ((keep gr h.ir.lt h.oO.2.2.2).trans h.ir) (aao h.ne.2.2.1) _
 .exact hown.bO hfp _
 .exact aH.bO (h.sw.same fun b hb hl=>keep b hl fun e=>h.os b e hb) h.sf.1 _
 .exact hnew b (h.sw.lt hs).2 (fun e=>h.os b e hs) hb
theorem aL.pushed {e:Ending} {K':List Int} (h:aL w0 w p gp gh gr av ov sv n m s K) (hp:vM p 5 (B6 av gp gh gr n m ov sv) 100 w0.heap.size sv K' w e w'):∃fJ,aL w0 w' p gp gh gr av ov fJ n m s K':=by
 obtain⟨_,v',hst,hat,hw⟩:=hp;have keep:∀b,b<w.heap.size->b≠p->sv.ownBlock≠some b->w'.heap[b]? =w.heap[b]? :=fun b hb h1 h2=>hw.block b hb (fun e=>e.elim h1 h2)
 have hnew:∀b,b<w.heap.size->sv.ownBlock≠some b->v'.ownBlock≠some b:=fun b hb hne e=>by
  rcases hat with e1|⟨g,e1,hg⟩
  .exact hne (e1.symm.trans e)
  .rw[e1] at e
   have:=aal e;omega
 have hB:=h.aZ.size
 refine⟨v',⟨h.aZ.trans (hw.below hB fun k hk=> ?_),hst.blk,(keep gp h.ip.lt (aao h.ne.1) h.sf.2.1).trans h.ip,(keep gh h.ih.lt (aao h.ne.2.1) h.sf.2.2.1).trans h.ih,(keep gr h.ir.lt (aao h.ne.2.2.1) h.sf.2.2.2).trans h.ir,
  h.ow.same fun b hb hl=>keep b hl (fun e=>h.oO.1 (by rw[hb,e])) (h.os b hb),hst.own,h.lo,h.ne,h.oO,⟨hst.far,hnew gp h.ip.lt h.sf.2.1,hnew gh h.ih.lt h.sf.2.2.1,hnew gr h.ir.lt h.sf.2.2.2⟩,fun b hb=>hnew b (h.ow.lt hb).2 (h.os b hb)⟩⟩
 rcases hk with rfl|hk
 .exact h.lo.1
 .exact(h.sw.lt hk).1
theorem aL.popped {x:Int} {e:Ending} {K':List Int} (h:aL w0 w p gp gh gr av ov sv n m s K) (hp:yX p 5 (B6 av gp gh gr n m ov sv) 100 w0.heap.size sv K' x w e w'):∃fJ,aL w0 w' p gp gh gr av ov fJ n m s K':=by
 obtain⟨_,v',hst,hat,hw⟩:=hp;have keep:∀b,b<w.heap.size->b≠p->w'.heap[b]? =w.heap[b]? :=fun b hb h1=>hw.block b hb h1
 have hB:=h.aZ.size
 refine⟨v',⟨h.aZ.trans (hw.below hB fun k hk=>by subst hk;exact h.lo.1),hst.blk,(keep gp h.ip.lt (aao h.ne.1)).trans h.ip,(keep gh h.ih.lt (aao h.ne.2.1)).trans h.ih,(keep gr h.ir.lt (aao h.ne.2.2.1)).trans h.ir,
  h.ow.same fun b hb hl=>keep b hl (fun e=>h.oO.1 (by rw[hb,e])),hst.own,h.lo,h.ne,h.oO,by rw[hat];exact h.sf,by rw[hat];exact h.os⟩⟩
end
end
section
open Go.Proofs.Tryz
open Go.RowKit
section
variable {w0 w:World} {p gp gh gr:Nat} {av ov sv:Value} {n:Nat} {es:List (Int×Int)} {s:Df.St} {K:List Int}
def Ai (w0:World) (p gp gh gr:Nat) (av:Value) (n:Nat) (es:List (Int×Int)) (s:Df.St) (K:List Int) (e:Ending) (w':World):Prop:=
 e= .returned (.tuple #[])/\∃ov sv,aL w0 w' p gp gh gr av ov sv n es.length s K
theorem rD (v:Nat) (h:aL w0 w p gp gh gr av ov sv n es.length s K) (hl:s.ay.length=n) (hv:v<n):
 Calls prog 48 #[.pointer (some ⟨p,0,none⟩),.int .i64 (v:Int)] w fun e w'=>e= .returned (.bool (s.height v != -1))/\w'=w:=by
 have c2:=h.c2;have d0:=h.ih.cell (gF (-1) (by omega:v<s.ay.length));have e0:(0:Int)<=(v:Int):=by omega
 have e1:(v:Int)<(n:Int):=by omega
 clear h;obtain⟨x,hx⟩:∃x,s.ay.getD v (-1)=x:=⟨_,rfl⟩;rw[hx] at d0;have hx':s.height v=x:=hx;rw[hx'];clear hx hx';go_enter func48,ntmps48;go_wp2;go_ret;exact⟨rfl,rfl⟩
theorem JC (h:Nat) (hW:aL w0 w p gp gh gr av ov sv n es.length s K) (hl:s.aT.length=es.length) (hh:h<2*es.length) (hm:es.length<=4194304):
 Calls prog 65 #[.pointer (some ⟨p,0,none⟩),.int .i64 (h:Int)] w fun e w'=>e= .returned (.bool (s.dir (h/2) != -1))/\w'=w:=by
 have c4:=hW.c4;obtain⟨jh,mM⟩:∃jh,h/2=jh:=⟨_,rfl⟩;have d0:=hW.ir.cell (gF (-1) (by omega:jh<s.aT.length));rw[mM];have DT:(h:Int).tdiv 2=(jh:Int):=by rw[acG (by omega)];omega
 have KS:(h:Int)/2=(jh:Int):=by omega
 have e0:(0:Int)<=(jh:Int):=by omega
 have e1:(jh:Int)<(es.length:Int):=by omega
 have e2:(0:Int)<=(h:Int):=by omega
 obtain⟨x,hx⟩:∃x,s.aT.getD jh (-1)=x:=⟨_,rfl⟩;rw[hx] at d0;have hx':s.dir jh=x:=hx;rw[hx'];clear hW hx hx';go_enter func65,ntmps65;go_wp2;go_ret;exact⟨rfl,rfl⟩
theorem C7 (v:Nat) (x y:Int) (aV:bK w0 av n es) (h:aL w0 w p gp gh gr av ov sv n es.length s K) (hp:s.par.length=n) (hl:s.ay.length=n) (hv:v<n) (ho:s.ord.length<=17592186044000) (hK:K.length<=17592186044000):
 Calls prog 61 #[.pointer (some ⟨p,0,none⟩),.int .i64 (v:Int),.int .i64 x,.int .i64 y] w (Ai w0 p gp gh gr av n es (s.reach v x y) (K++[Cs.fM n es v])):=by
 obtain⟨i0,hi,hz0,hz1,hz2⟩:=info_parts Tryz.cM;have h1:=h.Yv v x;have h2:=h1.Yw v y;have c1:=h.c1;have d1:=h.ip.cell (gF (-1) (by omega:v<s.par.length));have f1:=h.ip.free v;have c2:=h1.c2;have d2:=h1.ih.cell (gF (-1) (by dsimp only;omega:v<{ s with par:=s.par.set v x }.ay.length));have f2:=h1.ih.free v;have c3:=h2.c3;have e0:(0:Int)<=(v:Int):=by omega
 have e1:(v:Int)<(n:Int):=by omega
 obtain⟨w2,hw2⟩:∃w2,w2=(w.setCell ⟨gp,v,none⟩ (.int .i64 x)).setCell ⟨gh,v,none⟩ (.int .i64 y):=⟨_,rfl⟩;rw[<-hw2] at h2;have qh:=ζ hw2;have kT:∃q,av= .pointer q:=by
  rcases aV with ⟨h,_⟩|⟨_,p,h,_⟩
  .exact⟨_,h⟩
  .exact⟨_,h⟩
 obtain⟨q,rfl⟩:=kT;have hrow:w2.ownsRow w0.heap.size 3 1 ov s.ord.length (s.ord.map (Value.int .i64)):=h2.ow;have sP:=ζ hrow;have H2:=ζ h2;have hB:=h2.aZ.size;have hlt2:=h2.lt;have cP:=ζ aV;clear h h1 h2 hw2 hrow aV;go_enter func61,ntmps61;go_wp2_with (at_builtin;rw[<-qh.out];refine abQ ?_);refine ζ ?_;have ago:w2.heap.size=w.heap.size:=by rw[qh.out];simp
 refine wpList_append_own_at _ rfl _ _ 27 rfl w0.heap.size 3 i0 (.int .i64 0) 1 8 Tryz.underlying27 hi hz0 hz1 hz2 rfl (by decide) ov _ _ rfl (adD sP.out _) ⟨w.heap.size,0,none⟩ 1 1 [.int .i64 (v:Int)] rfl rfl (by rw[<-ago];exact cell_one_new _ _ _) (by simp[Value.oneCell']) (by unfold maxLen;omega) (by omega) (by simp;omega) ?_;intro kJ w3 hown hg _ hat;have hz:aH w3 w0.heap.size kJ (s.ord++[(v:Int)]):=by
  unfold aH;rw[abZ,acS];exact hown
 obtain⟨h3,c5,f5,_⟩:=H2.out.Yz hz hg (by simpa using hat);obtain⟨g3,WS,hv3⟩:=qx hown;subst hv3;obtain⟨w4,hw4⟩:∃w4,w4=w3.setCell ⟨p,3,none⟩ (.slice (some ⟨g3,0,none⟩) (s.ord.length+1) WS):=⟨_,rfl⟩;rw[<-hw4] at h3;have xJ:=ζ hw4;have H3:=ζ h3;clear hown hg hat hz hw4 h3 c1 c2 c3 d1 d2 f1 f2 sP H2;go_wp2_with fail;rw[<-xJ.out];have c6:=H3.out.c0;have HF:Hid (∀V,Below w4.heap.size w4 V->Calls prog 58 #[.pointer q,.int .i64 (v:Int)] V fun e V'=>e= .returned (.int .i64 (Cs.fM n es v))/\Below V.heap.size V V'):=fun V hV=>(Eo _ n es v V (cP.out.later (H3.out.aZ.trans (hV.mono H3.out.aZ.size)))).mono (by
  rintro e V' ⟨rfl,k,rfl⟩;exact⟨rfl,below_drewN (aae _ _) k⟩)
 have HP:Hid (∀V,Below w4.heap.size w4 V->Calls prog 64 #[.pointer (some ⟨p,5,none⟩),.int .i64 (Cs.fM n es v)] V fun e V'=>e= .returned (.tuple #[])/\∃ov sv,aL w0 V' p gp gh gr (.pointer q) ov sv n es.length (s.reach v x y) (K++[Cs.fM n es v])):=fun V hV=>by
  have hW:=H3.out.later hV;refine(zK p 5 _ _ _ _ K (Cs.fM n es v) V hW.stk hW.aZ.size hK).mono ?_;intro e V' hp;obtain⟨fJ,h⟩:=hW.pushed hp;exact⟨hp.1,_,fJ,h⟩
 have hbd:Below w4.heap.size w4 w4.drew:=(aae _ _).drew;have hS:∀V,Below w4.heap.size w4 V->(V.cell? ⟨p,0,none⟩=some (.pointer q)):=fun V hV=>(H3.out.later hV).c0
 have HS:=ζ hS;clear c6 hS c5 f5
 go_region_held3 (fun V=>V.cell? ⟨p,0,none⟩=some (.pointer q))
  (first|exact HS.out _ (by first|assumption|exact hbd)|(obtain⟨_,_,hw⟩:= ‹∃ov sv,aL _ _ _ _ _ _ _ ov sv _ _ _ _›;exact hw.c0))
  ((first
    |(go_at_call 58;refine(HF.out _ (by first|assumption|exact hbd)).mono ?_;rintro e V1 ⟨rfl,td⟩;have hb1:Below w4.heap.size w4 V1:=aeh (by first|assumption|exact hbd) (td.mono (ad9 (by first|assumption|exact hbd))))
    |(go_at_call 64;refine(HP.out _ (by first|assumption|exact hbd)).mono ?_;rintro e V2 ⟨rfl,hv2⟩)))
 all_goals
  go_wp2
  go_end0
  exact⟨rfl,hv2⟩
end
end
section
open Go.Proofs.Tryz
open Go.RowKit
section
variable {w0 w:World} {p gp gh gr:Nat} {av ov sv:Value} {n r:Nat} {es:List (Int×Int)} {s:Df.St} {K:List Int}
theorem MF (h:Nat) (aV:bK w0 av n es) (hW:aL w0 w p gp gh gr av ov sv n es.length s K) (b:Df.Bd n es r s) (hh:h<2*es.length) (hv:s.height (Cs.to es h)≠-1):
 Calls prog 66 #[.pointer (some ⟨p,0,none⟩),.int .i64 (h:Int)] w (Ai w0 p gp gh gr av n es (s.mark h) K):=by
 have hval:=aV.val hh;obtain⟨yD,lZ⟩:=aV.bounds;have ht:=(Cs.bI hval hh).2;obtain⟨jh,mM⟩:∃jh,h/2=jh:=⟨_,rfl⟩;have c4:=hW.c4;have d4:=hW.ir.cell (gF (-1) (by rw[b.lo];omega:jh<s.aT.length));have f4:=hW.ir.free jh;have h1:=hW.PE jh (h:Int);have hm:s.mark h={ s with aT:=s.aT.set jh (h:Int) }:=by unfold Df.St.mark;rw[mM]
 rw[<-hm] at h1;have DT:(h:Int).tdiv 2=(jh:Int):=by rw[acG (by omega)];omega
 have KS:(h:Int)/2=(jh:Int):=by omega
 have e0:(0:Int)<=(jh:Int):=by omega
 have e1:(jh:Int)<(es.length:Int):=by omega
 have e2:(0:Int)<=(h:Int):=by omega
 obtain⟨w1,hw1⟩:∃w1,w1=w.setCell ⟨gr,jh,none⟩ (.int .i64 (h:Int)):=⟨_,rfl⟩;rw[<-hw1] at h1;have HT:=jO av n es h w1 (aV.later h1.aZ);rw[Cs.toI_in hh] at HT;have HR:=rD (Cs.to es h) h1 b.lh ht;have hr:((s.mark h).height (Cs.to es h) != -1)=true:=by
  show(s.height (Cs.to es h) != -1)=true;simpa using hv
 rw[hr] at HR;have hc0:=h1.c0;have pE:=ζ hw1;have H1:=ζ h1;have ZU:=ζ HT;have ZY:=ζ HR;clear hval hv hm h1 hw1 HT HR hr hW aV b;rw[pE.out] at hc0;go_enter func66,ntmps66;go_wp2_with (first|(go_at_call 44;rw[<-pE.out];refine ZU.out.mono ?_;rintro e V ⟨rfl,rfl⟩)|(go_at_call 48;refine ZY.out.mono ?_;rintro e V ⟨rfl,rfl⟩))
 go_end0
 exact⟨rfl,_,_,H1.out⟩
theorem ME (h:Nat) (aV:bK w0 av n es) (hW:aL w0 w p gp gh gr av ov sv n es.length s K) (b:Df.Bd n es r s) (hh:h<2*es.length) (hv:s.height (Cs.to es h)= -1) (ho:s.ord.length<=17592186044000) (hK:K.length<=17592186044000):
 Calls prog 66 #[.pointer (some ⟨p,0,none⟩),.int .i64 (h:Int)] w (Ai w0 p gp gh gr av n es (s.go es h) (K++[Cs.fM n es (Cs.to es h)])):=by
 have hval:=aV.val hh;obtain⟨yD,lZ⟩:=aV.bounds;obtain⟨hf,ht⟩:=Cs.bI hval hh;have hne:=Cs.SL hval hh;obtain⟨jh,mM⟩:∃jh,h/2=jh:=⟨_,rfl⟩;have c4:=hW.c4;have d4:=hW.ir.cell (gF (-1) (by rw[b.lo];omega:jh<s.aT.length));have f4:=hW.ir.free jh;have h1:=hW.PE jh (h:Int);have hm:s.mark h={ s with aT:=s.aT.set jh (h:Int) }:=by unfold Df.St.mark;rw[mM]
 rw[<-hm] at h1;have DT:(h:Int).tdiv 2=(jh:Int):=by rw[acG (by omega)];omega
 have KS:(h:Int)/2=(jh:Int):=by omega
 have e0:(0:Int)<=(jh:Int):=by omega
 have e1:(jh:Int)<(es.length:Int):=by omega
 have e2:(0:Int)<=(h:Int):=by omega
 obtain⟨w1,hw1⟩:∃w1,w1=w.setCell ⟨gr,jh,none⟩ (.int .i64 (h:Int)):=⟨_,rfl⟩;rw[<-hw1] at h1;have HT:=jO av n es h w1 (aV.later h1.aZ);rw[Cs.toI_in hh] at HT;have HR:=rD (Cs.to es h) h1 b.lh ht;have hr:((s.mark h).height (Cs.to es h) != -1)=false:=by
  show(s.height (Cs.to es h) != -1)=false;simpa using hv
 rw[hr] at HR;have hc0:=h1.c0;have hhb:=b.hh _ hf;have hbh:b.lh=b.lh:=rfl;have pE:=ζ hw1;have H1:=ζ h1;have ZU:=ζ HT;have ZY:=ζ HR;have kT:∃q,av= .pointer q:=by
  rcases aV with ⟨h,_⟩|⟨_,p,h,_⟩
  .exact⟨_,h⟩
  .exact⟨_,h⟩
 obtain⟨q,rfl⟩:=kT;obtain⟨x,hx⟩:∃x,s.height (Cs.fr es h)=x:=⟨_,rfl⟩;have hgo:s.go es h=(s.mark h).reach (Cs.to es h) h (x+1):=by unfold Df.St.go;rw[hx]
 rw[hgo];rw[hx] at hhb;have HF:Hid (∀V,Below w1.heap.size w1 V->Calls prog 42 #[.pointer q,.int .i64 (h:Int)] V fun e V'=>e= .returned (.int .i64 (Cs.fr es h:Int))/\V'=V):=fun V hV=>by
  have:=j7 _ n es h V (aV.later (H1.out.aZ.trans (hV.mono H1.out.aZ.size)));rw[Cs.jQ hh] at this;exact this
 have hS:∀V (s':Df.St) ov sv K',aL w0 V p gp gh gr (.pointer q) ov sv n es.length s' K'->s'.ay.length=n->s'.height (Cs.fr es h)=x->(V.cell? ⟨p,2,none⟩=some (.slice (some ⟨gh,0,none⟩) n n)/\V.cell? ⟨p,0,none⟩=some (.pointer q)/\V.cell? ⟨gh,Cs.fr es h,none⟩=some (.int .i64 x)):=fun V s' ov sv K' hw hl hx=>by
  refine⟨hw.c2,hw.c0,?_⟩;have:=hw.ih.cell (gF (-1) (by omega:Cs.fr es h<s'.ay.length));rw[this];exact congrArg (fun z=>some (Value.int .i64 z)) hx
 have HP:Hid (∀V,Below w1.heap.size w1 V->Calls prog 61 #[.pointer (some ⟨p,0,none⟩),.int .i64 (Cs.to es h:Int),.int .i64 (h:Int),.int .i64 (x+1)] V fun e V'=>e= .returned (.tuple #[])/\(∃ov sv,aL w0 V' p gp gh gr (.pointer q) ov sv n es.length ((s.mark h).reach (Cs.to es h) h (x+1)) (K++[Cs.fM n es (Cs.to es h)]))/\(V'.cell? ⟨p,2,none⟩=some (.slice (some ⟨gh,0,none⟩) n n)/\V'.cell? ⟨p,0,none⟩=some (.pointer q)/\V'.cell? ⟨gh,Cs.fr es h,none⟩=some (.int .i64 x))):=fun V hV=>by
  refine(C7 (Cs.to es h) h (x+1) aV (H1.out.later hV) b.lp b.lh ht ho hK).mono ?_;rintro e V' ⟨he,kJ,fJ,hw⟩;refine⟨he,⟨kJ,fJ,hw⟩,hS V' _ kJ fJ _ hw ?_ ?_⟩
  .show(s.ay.set _ _).length=n
   rw[acJ];exact b.lh
  .show(s.ay.set _ _).getD _ _=x
   rw[aag,ab0,if_neg (fun e=>hne e.symm),<-aag];exact hx
 have HS:Hid (∀V,Below w1.heap.size w1 V->(V.cell? ⟨p,2,none⟩=some (.slice (some ⟨gh,0,none⟩) n n)/\V.cell? ⟨p,0,none⟩=some (.pointer q)/\V.cell? ⟨gh,Cs.fr es h,none⟩=some (.int .i64 x))):=fun V hV=>hS V _ _ _ _ (H1.out.later hV) b.lh hx
 obtain⟨f,hff⟩:∃f,Cs.fr es h=f:=⟨_,rfl⟩;obtain⟨t,htt⟩:∃t,Cs.to es h=t:=⟨_,rfl⟩;rw[hff] at HF HS HP hf;rw[htt] at ZU ZY HP ⊢;have i0:(0:Int)<=(f:Int):=by omega
 have i1:(f:Int)<(n:Int):=by omega
 have hbd:Below w1.heap.size w1 w1.drew:=(aae _ _).drew;have hxw:IntKind.i64.wrap (x+1)=x+1:=by rw[acf];omega
 clear hval hv hm h1 hw1 HT HR hr hW aV b hgo hS hx hne hff htt hbh;rw[pE.out] at hc0;go_enter func66,ntmps66;go_wp2_with (first|(go_at_call 44;rw[<-pE.out];refine ZU.out.mono ?_;rintro e V ⟨rfl,rfl⟩)|(go_at_call 48;refine ZY.out.mono ?_;rintro e V ⟨rfl,rfl⟩))
 go_region_held3 (fun V=>V.cell? ⟨p,2,none⟩=some (.slice (some ⟨gh,0,none⟩) n n)/\V.cell? ⟨p,0,none⟩=some (.pointer q)/\V.cell? ⟨gh,f,none⟩=some (.int .i64 x))
  (first|exact HS.out _ (by first|assumption|exact hbd)|assumption)
  ((first
    |(go_at_call 42;refine(HF.out _ (by first|assumption|exact hbd)).mono ?_;rintro e V1 ⟨rfl,rfl⟩)
    |(go_at_call 61;refine(HP.out _ (by first|assumption|exact hbd)).mono ?_;rintro e V2 ⟨rfl,hv2,hs2⟩)))
 all_goals
  go_wp2
  go_end0
  exact⟨rfl,hv2⟩
end
end
end Go.Proofs.YtbhdibflpjhpaaaGreat
