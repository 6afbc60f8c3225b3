import Derived.Test.YtbhdibflpjhpaaaGreatMg26
set_option maxHeartbeats 16000000
set_option maxRecDepth 100000
namespace Go.Proofs.YtbhdibflpjhpaaaGreat
section
open Go.Proofs.Tryz
open Go.RowKit
structure Wd (w:World) (p:Nat) (av:Value) (n:Nat) (es:List (Int×Int)) (f:For) (s:Df.St):Prop where
 blk:w.heap[p]? =some (.cells #[av,.slice f.a1 n f.c1,.slice f.a2 n f.c2,.slice f.a3 n f.c3,.slice f.a4 es.length f.c4] 142 (0,0))
 Fv:bK w av n es
 val:Si.Val n es
 bT:mV w f s
 vf:Df.VF n es s
section
variable {w w':World} {p:Nat} {av:Value} {n:Nat} {es:List (Int×Int)} {f:For} {s:Df.St}
theorem Wd.lt (h:Wd w p av n es f s):p<w.heap.size:=lt_of_block h.blk
theorem Wd.later (h:Wd w p av n es f s) (hb:Below w.heap.size w w'):Wd w' p av n es f s:=⟨(hb.block p h.lt).trans h.blk,h.Fv.later hb,h.val,h.bT.later hb,h.vf⟩
theorem Wd.c0 (h:Wd w p av n es f s):w.cell? ⟨p,0,none⟩=some av:=by simp[World.cell?,h.blk]
theorem Wd.c1 (h:Wd w p av n es f s):w.cell? ⟨p,1,none⟩=some (.slice f.a1 n f.c1):=by simp[World.cell?,h.blk]
theorem Wd.c2 (h:Wd w p av n es f s):w.cell? ⟨p,2,none⟩=some (.slice f.a2 n f.c2):=by simp[World.cell?,h.blk]
theorem Wd.c3 (h:Wd w p av n es f s):w.cell? ⟨p,3,none⟩=some (.slice f.a3 n f.c3):=by simp[World.cell?,h.blk]
theorem Wd.c4 (h:Wd w p av n es f s):w.cell? ⟨p,4,none⟩=some (.slice f.a4 es.length f.c4):=by simp[World.cell?,h.blk]
theorem Wd.ay (h:Wd w p av n es f s) {v:Nat} (hv:v<n):∃b o,f.a2=some ⟨b,o,none⟩/\∀W,Below w.heap.size w W->∀i,i<n->W.cell? ⟨b,o+i,none⟩=some (.int .i64 (Df.at_ s.ay i)):=by
 have l:=h.vf.lens;obtain⟨b,o,e,-⟩:=dm h.bT.l2 (i:=v) (by rw[l.2.1];exact hv);refine⟨b,o,e,fun W hW i hi=> ?_⟩;obtain⟨b',o',e',d'⟩:=dm (h.bT.later hW).l2 (i:=i) (by rw[l.2.1];exact hi);rw[e] at e';cases e';exact d'
theorem Wd.par (h:Wd w p av n es f s) {v:Nat} (hv:v<n):∃b o,f.a1=some ⟨b,o,none⟩/\∀W,Below w.heap.size w W->∀i,i<n->W.cell? ⟨b,o+i,none⟩=some (.int .i64 (Df.at_ s.par i)):=by
 have l:=h.vf.lens;obtain⟨b,o,e,-⟩:=dm h.bT.l1 (i:=v) (by rw[l.1];exact hv);refine⟨b,o,e,fun W hW i hi=> ?_⟩;obtain⟨b',o',e',d'⟩:=dm (h.bT.later hW).l1 (i:=i) (by rw[l.1];exact hi);rw[e] at e';cases e';exact d'
theorem Wd.ord (h:Wd w p av n es f s) {v:Nat} (hv:v<n):∃b o,f.a3=some ⟨b,o,none⟩/\∀W,Below w.heap.size w W->∀i,i<n->W.cell? ⟨b,o+i,none⟩=some (.int .i64 (Df.at_ s.ord i)):=by
 have l:=h.vf.lens;obtain⟨b,o,e,-⟩:=dm h.bT.l3 (i:=v) (by rw[l.2.2.1];exact hv);refine⟨b,o,e,fun W hW i hi=> ?_⟩;obtain⟨b',o',e',d'⟩:=dm (h.bT.later hW).l3 (i:=i) (by rw[l.2.2.1];exact hi);rw[e] at e';cases e';exact d'
theorem Wd.aT (h:Wd w p av n es f s) {v:Nat} (hv:v<es.length):∃b o,f.a4=some ⟨b,o,none⟩/\∀W,Below w.heap.size w W->∀i,i<es.length->W.cell? ⟨b,o+i,none⟩=some (.int .i64 (Df.at_ s.aT i)):=by
 have l:=h.vf.lens;obtain⟨b,o,e,-⟩:=dm h.bT.l4 (i:=v) (by rw[l.2.2.2];exact hv);refine⟨b,o,e,fun W hW i hi=> ?_⟩;obtain⟨b',o',e',d'⟩:=dm (h.bT.later hW).l4 (i:=i) (by rw[l.2.2.2];exact hi);rw[e] at e';cases e';exact d'
theorem Be (i:Nat) (hi:i<2*es.length) (h:Wd w p av n es f s):
 Calls prog 85 #[.pointer (some ⟨p,0,none⟩),.int .i64 (i:Int)] w fun e w'=>e= .returned (.int .i64 (Df.at_ s.ay (Cs.fr es i)))/\Below w.heap.size w w':=by
 have hl:=Cs.bI h.val hi;obtain⟨b,o,ef,hc⟩:=h.ay hl.1;have c0:∀D:LW w,D.val.cell? ⟨p,0,none⟩=some av:=fun D=>(h.later D.h).c0
 have c2:∀D:LW w,D.val.cell? ⟨p,2,none⟩=some (.slice (some ⟨b,o,none⟩) n f.c2):=fun D=>by have:=(h.later D.h).c2;rwa[ef] at this
 have d2:∀D:LW w,D.val.cell? ⟨b,o+Cs.fr es i,none⟩=some (.int .i64 (Df.at_ s.ay (Cs.fr es i))):=fun D=>hc D.val D.h _ hl.1
 have lA:Hid (∀D:LW w,Calls prog 42 #[av,.int .i64 (i:Int)] D.val fun e w'=>e= .returned (.int .i64 (Cs.fr es i:Int))/\Below D.val.heap.size D.val w'):=fun D=>(j7 av n es (i:Int) D.val (h.later D.h).Fv).mono fun e w' ⟨he,hw⟩=>⟨by rw[he,Cs.jQ hi],by rw[hw];exact aae _ _⟩
 obtain⟨t,ht⟩:∃t,Cs.fr es i=t:=⟨_,rfl⟩;obtain⟨z,hz⟩:∃z,Df.at_ s.ay t=z:=⟨_,rfl⟩;rw[ht,hz] at d2;rw[ht] at lA;rw[ht,hz];have t0:(0:Int)<=(t:Int):=by omega
 have t1:(t:Int)<(n:Int):=by have:=hl.1;rw[ht] at this;omega
 have hne:=LW.any w;clear hl hc h ef ht hz hi;go_enter func85,ntmps85;go_wp2_with fail;refine aG (by kernel_rfl) (by kernel_rfl) ?_
 repeat (go_big_quiet_step ((first|(go_at_call 42;exact Calls.lw (lA.out _)))))
 refine wpQuiet_nil ?_;rintro _ ⟨D,rfl⟩;go_wp2;go_ret;exact⟨rfl,D.h⟩
theorem SR (i:Nat) (hi:i<2*es.length) (h:Wd w p av n es f s):
 Calls prog 103 #[.pointer (some ⟨p,0,none⟩),.int .i64 (i:Int)] w fun e w'=>e= .returned (.int .i64 (Df.at_ s.ay (Cs.to es i)))/\Below w.heap.size w w':=by
 have hl:=Cs.bI h.val hi;obtain⟨b,o,ef,hc⟩:=h.ay hl.2;have c0:∀D:LW w,D.val.cell? ⟨p,0,none⟩=some av:=fun D=>(h.later D.h).c0
 have c2:∀D:LW w,D.val.cell? ⟨p,2,none⟩=some (.slice (some ⟨b,o,none⟩) n f.c2):=fun D=>by have:=(h.later D.h).c2;rwa[ef] at this
 have d2:∀D:LW w,D.val.cell? ⟨b,o+Cs.to es i,none⟩=some (.int .i64 (Df.at_ s.ay (Cs.to es i))):=fun D=>hc D.val D.h _ hl.2
 have lA:Hid (∀D:LW w,Calls prog 44 #[av,.int .i64 (i:Int)] D.val fun e w'=>e= .returned (.int .i64 (Cs.to es i:Int))/\Below D.val.heap.size D.val w'):=fun D=>(jO av n es (i:Int) D.val (h.later D.h).Fv).mono fun e w' ⟨he,hw⟩=>⟨by rw[he,Cs.toI_in hi],by rw[hw];exact aae _ _⟩
 obtain⟨t,ht⟩:∃t,Cs.to es i=t:=⟨_,rfl⟩;obtain⟨z,hz⟩:∃z,Df.at_ s.ay t=z:=⟨_,rfl⟩;rw[ht,hz] at d2;rw[ht] at lA;rw[ht,hz];have t0:(0:Int)<=(t:Int):=by omega
 have t1:(t:Int)<(n:Int):=by have:=hl.2;rw[ht] at this;omega
 have hne:=LW.any w;clear hl hc h ef ht hz hi;go_enter func103,ntmps103;go_wp2_with fail;refine aG (by kernel_rfl) (by kernel_rfl) ?_
 repeat (go_big_quiet_step ((first|(go_at_call 44;exact Calls.lw (lA.out _)))))
 refine wpQuiet_nil ?_;rintro _ ⟨D,rfl⟩;go_wp2;go_ret;exact⟨rfl,D.h⟩
theorem O0 (i:Nat) (hi:i<2*es.length) (h:Wd w p av n es f s):
 Calls prog 102 #[.pointer (some ⟨p,0,none⟩),.int .i64 (i:Int)] w fun e w'=>e= .returned (.bool (Df.at_ s.par (Cs.to es i) != (i:Int)))/\Below w.heap.size w w':=by
 have hl:=Cs.bI h.val hi;obtain⟨b,o,ef,hc⟩:=h.par hl.2;have c0:∀D:LW w,D.val.cell? ⟨p,0,none⟩=some av:=fun D=>(h.later D.h).c0
 have c1:∀D:LW w,D.val.cell? ⟨p,1,none⟩=some (.slice (some ⟨b,o,none⟩) n f.c1):=fun D=>by have:=(h.later D.h).c1;rwa[ef] at this
 have d2:∀D:LW w,D.val.cell? ⟨b,o+Cs.to es i,none⟩=some (.int .i64 (Df.at_ s.par (Cs.to es i))):=fun D=>hc D.val D.h _ hl.2
 have lA:Hid (∀D:LW w,Calls prog 44 #[av,.int .i64 (i:Int)] D.val fun e w'=>e= .returned (.int .i64 (Cs.to es i:Int))/\Below D.val.heap.size D.val w'):=fun D=>(jO av n es (i:Int) D.val (h.later D.h).Fv).mono fun e w' ⟨he,hw⟩=>⟨by rw[he,Cs.toI_in hi],by rw[hw];exact aae _ _⟩
 obtain⟨t,ht⟩:∃t,Cs.to es i=t:=⟨_,rfl⟩;obtain⟨z,hz⟩:∃z,Df.at_ s.par t=z:=⟨_,rfl⟩;rw[ht,hz] at d2;rw[ht] at lA;rw[ht,hz];have t0:(0:Int)<=(t:Int):=by omega
 have t1:(t:Int)<(n:Int):=by have:=hl.2;rw[ht] at this;omega
 have hne:=LW.any w;clear hl hc h ef ht hz hi;go_enter func102,ntmps102;go_wp2_with fail;refine aG (by kernel_rfl) (by kernel_rfl) ?_
 repeat (go_big_quiet_step ((first|(go_at_call 44;exact Calls.lw (lA.out _)))))
 refine wpQuiet_nil ?_;rintro _ ⟨D,rfl⟩;go_wp2;go_ret;exact⟨rfl,D.h⟩
def Au (p:Nat) (v:Int) (w:World) (e:Ending) (w':World):Prop:=
 ∃Bw Bv,e= .returned (.func (.func 99) #[] #[.pointer (some ⟨Bw,0,none⟩),.pointer (some ⟨Bv,0,none⟩)])/\w.heap.size<=Bw/\w.heap.size<=Bv/\
  Boxed w' Bw 116 (.pointer (some ⟨p,0,none⟩))/\Boxed w' Bv 3 (.int .i64 v)/\Below w.heap.size w w'
theorem Cu (p:Nat) (v:Int) (w:World):Calls prog 83 #[.pointer (some ⟨p,0,none⟩),.int .i64 v] w (Au p v w):=by
 go_enter func83,ntmps83;go_wp2;go_ret;refine⟨w.heap.size,w.heap.size+1,rfl,aad _,by omega,(aer w _ _).alloc _,?_,((aae _ _).alloc (aad _) _).alloc (by simp) _⟩;have:=aer (w.alloc (.cells #[.pointer (some ⟨p,0,none⟩)] 116)) 3 (.int .i64 v);rwa[acC] at this
end
end
section
open Go.RowKit
namespace Lo
def iV (p:Int×Int) (h:Int):Int×Int:=if h<p.1 then (h,p.1) else if p.1<h/\h<p.2 then (p.1,h) else p
def pG (p:Int×Int) (hs:List Int):Int×Int:=hs.foldl iV p
def oI (m:Int) (X:List Int) (p:Int×Int):Prop:=p.1=least m X/\p.2=least m (X.filter fun x=>decide (p.1<x))
theorem KB {m:Int} {X Y:List Int} (h:∀x,x∈X↔x∈Y):least m X=least m Y:=by
 have h1:=least_le m X;have h2:=least_le m Y;rcases eK m X with e1|e1<;>rcases eK m Y with e2|e2
 .omega
 .have:=h1.2 _ ((h _).2 e2);have:=h2.1;omega
 .have:=h2.2 _ ((h _).1 e1);have:=h1.1;omega
 .have:=h1.2 _ ((h _).2 e2);have:=h2.2 _ ((h _).1 e1);omega
theorem oI.start (m:Int):oI m [] (m,m):=⟨rfl,rfl⟩
theorem oI.more {m:Int} {X:List Int} {p:Int×Int} (h:oI m X p) (x:Int):oI m (X++[x]) (iV p x):=by
 obtain⟨a,b⟩:=p;obtain⟨h1,h2⟩:=h;dsimp only at h1 h2;have l1:=least_le m X;have ha:∀y∈X,a<=y:=fun y hy=>by rw[h1];exact l1.2 y hy
 have hm:a<=m:=by rw[h1];exact l1.1
 have lZ:b<=m:=by rw[h2];exact(least_le m _).1
 unfold iV;dsimp only;by_cases c1:x<a
 .rw[if_pos c1]
  refine⟨?_,?_⟩
  .dsimp only
   rw[j5,<-h1];omega
  .dsimp only
   rw[h1];refine KB fun y=> ?_
   rw[acK,aam,aan,decide_eq_true_iff];constructor
   .exact fun hy=>⟨.inl hy,by have:=ha y hy;omega⟩
   .rintro⟨hy|hy,hlt⟩
    .exact hy
    .omega
 .rw[if_neg c1]
  by_cases c2:a<x/\x<b
  .rw[if_pos c2]
   refine⟨?_,?_⟩
   .dsimp only
    rw[j5,<-h1];omega
   .dsimp only
    rw[aeV,aep (by simpa using c2.1)];show x=least m (_++[x]);rw[j5,<-h2];omega
  .rw[if_neg c2]
   refine⟨?_,?_⟩
   .dsimp only
    rw[j5,<-h1];omega
   .dsimp only
    rw[aeV];by_cases c3:a<x
    .rw[aep (by simpa using c3)]
     show b=least m (_++[x]);rw[j5,<-h2];omega
    .rw[ae3 (by simpa using c3),afP,acH]
     exact h2
theorem oI.many {m:Int}:∀(Y X:List Int) (p:Int×Int),oI m X p->oI m (X++Y) (pG p Y)
 |[],X,p,h=>by rw[acH];exact h
 |y::Y,X,p,h=>by
  have:=oI.many Y (X++[y]) (iV p y) (h.more y);rw[ace] at this;exact this
theorem MP (p:Int×Int) (l:List Int) (x:Int):pG p (l++[x])=iV (pG p l) x:=by
 unfold pG;rw[afF];rfl
end Lo
def Tg (Bl B2:Nat) (p:Int×Int) (w:World) (e:Ending) (w':World):Prop:=
 e= .returned (.tuple #[.int .i64 p.1,.int .i64 p.2])/\Boxed w' Bl 3 (.int .i64 p.1)/\Boxed w' B2 3 (.int .i64 p.2)/\az (fun k=>k=Bl\/k=B2) w w'
theorem zU (Bl B2:Nat) (p:Int×Int) (ao:Option Addr) (c:Nat) (hs:List Int) (w:World) (hne:Bl≠B2) (b1:Boxed w Bl 3 (.int .i64 p.1)) (b2:Boxed w B2 3 (.int .i64 p.2)) (hl:hs.length<=8388608)
 (hc:∀V,az (fun k=>k=Bl\/k=B2) w V->bV V ao hs):
 Calls Tryz.prog 119 #[.slice ao hs.length c,.pointer (some ⟨Bl,0,none⟩),.pointer (some ⟨B2,0,none⟩)] w (Tg Bl B2 (Lo.pG p hs) w):=by
 have HC:=ζ hc;have aY:=ζ b1;have cj:=ζ b2;clear hc b1 b2;go_enter Tryz.func119,Tryz.ntmps119;go_wp2;go_loopw [10] (fun i wr=>∃k:Nat,k<=hs.length/\i= .int .i64 k/\Boxed wr Bl 3 (.int .i64 (Lo.pG p (hs.take k)).1)/\Boxed wr B2 3 (.int .i64 (Lo.pG p (hs.take k)).2)/\az (fun k=>k=Bl\/k=B2) w wr) (fun i _=>hs.length-(intOf i).toNat)
 case atStart=>exact⟨0,ab6 _,rfl,aY.out,cj.out,az.refl _ _⟩
 case round=>
  obtain⟨k,hk,rfl,hb1,hb2,hw⟩:=hrel;have x1:=hb1.cell;have x2:=hb2.cell;have f1:=hb1.frozen;have f2:=hb2.frozen;by_cases hlt:k<hs.length
  .obtain⟨z,hz⟩:∃z,hs[k]? =some z:=⟨_,aac hlt⟩
   obtain⟨b,o,rfl,hcz⟩:=HC.out wr hw k z hz;have mW:Hid (Lo.pG p (hs.take (k+1))=Lo.iV (Lo.pG p (hs.take k)) z):=by
    show _=_;rw[ade,hz];exact Lo.MP _ _ _
   obtain⟨q,hq⟩:∃q,Lo.pG p (hs.take k)=q:=⟨_,rfl⟩;obtain⟨a,b'⟩:=q;rw[hq] at mW x1 x2 hb1 hb2;dsimp only at x1 x2 hb1 hb2;have k0:(0:Int)<=(k:Int):=by omega
   have k1:(k:Int)<(hs.length:Int):=by omega
   have HW:=ζ hw;have Tt:=ζ hb1;have Tq:=ζ hb2;clear hw hz hq hb1 hb2;by_cases c1:z<a
   .have HT:Hid (Lo.iV (a,b') z=(z,a)):=by
     show _=_;unfold Lo.iV;rw[if_pos c1]
    go_wp2;go_roundw
    case rel=>
     refine⟨k+1,by omega,by go_num,?_,?_,(HW.out.setCell (.inl rfl) _).setCell (.inr rfl) _⟩
     .rw[mW.out,HT.out]
      exact(Boxed.set _ Tt.out).other hne _
     .rw[mW.out,HT.out]
      exact Boxed.set _ (Tq.out.other hne.symm _)
    case measure=>simp[intOf];omega
   .by_cases c2:a<z
    .by_cases c3:z<b'
     .have HT:Hid (Lo.iV (a,b') z=(a,z)):=by
       show _=_;unfold Lo.iV;rw[if_neg c1,if_pos ⟨c2,c3⟩]
      go_wp2;go_roundw
      case rel=>
       refine⟨k+1,by omega,by go_num,?_,?_,HW.out.setCell (.inr rfl) _⟩
       .rw[mW.out,HT.out]
        exact Tt.out.other hne _
       .rw[mW.out,HT.out]
        exact Boxed.set _ Tq.out
      case measure=>simp[intOf];omega
     .have HT:Hid (Lo.iV (a,b') z=(a,b')):=by
       show _=_;unfold Lo.iV;rw[if_neg c1,if_neg (fun h=>c3 h.2)]
      go_wp2;go_roundw
      case rel=>exact⟨k+1,by omega,by go_num,by rw[mW.out,HT.out];exact Tt.out,by rw[mW.out,HT.out];exact Tq.out,HW.out⟩
      case measure=>simp[intOf];omega
    .have HT:Hid (Lo.iV (a,b') z=(a,b')):=by
      show _=_;unfold Lo.iV;rw[if_neg c1,if_neg (fun h=>c2 h.1)]
     go_wp2;go_roundw
     case rel=>exact⟨k+1,by omega,by go_num,by rw[mW.out,HT.out];exact Tt.out,by rw[mW.out,HT.out];exact Tq.out,HW.out⟩
     case measure=>simp[intOf];omega
  .have hd:¬((k:Int)<(hs.length:Int)):=by omega
   rw[acL (by omega)] at x1 x2 hb1 hb2;have HW:=ζ hw;have Tt:=ζ hb1;have Tq:=ζ hb2;clear hw hb1 hb2;go_wp2_with fail;go_quiet (fail);go_wp2;refine bodyPost_ret (results_tmp2 rfl _ _ _) rfl ?_;exact⟨rfl,Tt.out,Tq.out,HW.out.drewN _⟩
end
section
open Go.RowKit Go.Shelf
attribute [local go_sem] Oper.semAt_some
def mo (n₀:Nat) (w:World) (ao:Option Addr) (l:List Int):Prop:=∀(j:Nat) (x:Int),l[j]? =some x->∃b o:Nat,ao=some ⟨b,o,none⟩/\b<n₀/\w.cell? ⟨b,o+j,none⟩=some (.int .i64 x)
theorem bV.under {w W:World} {ao:Option Addr} {l:List Int} (h:bV w ao l) (hb:Below w.heap.size w W):mo w.heap.size W ao l:=fun j x hj=>by
 obtain⟨b,o,e,hc⟩:=h j x hj;exact⟨b,o,e,block_lt_of_cell hc,(hb.cell (p:=⟨b,o+j,none⟩) (block_lt_of_cell hc)).trans hc⟩
theorem mo.below {n₀:Nat} {w W:World} {ao:Option Addr} {l:List Int} (h:mo n₀ w ao l) (hb:Below n₀ w W):mo n₀ W ao l:=fun j x hj=>by
 obtain⟨b,o,e,hl,hc⟩:=h j x hj;exact⟨b,o,e,hl,(hb.cell (p:=⟨b,o+j,none⟩) hl).trans hc⟩
end
section
open Go.RowKit Go.Shelf
attribute [local go_sem] Oper.semAt_some
theorem zB {α:Type} {zs:List α} {k:Nat} {z:α} (h:zs[k]? =some z):zs.take k++[z] <+: zs:=by
 have:zs.take (k+1)=zs.take k++[z]:=by
  rw[ade,h];rfl
 rw[<-this];exact afh _ _
abbrev abl (x:Int):Array Value:= #[.int .i64 x]
theorem YG (Bs n₀ cap:Nat) (S:Nat->Prop) (ao:Option Addr) (zs:List Int) (hz:zs.length<=8388608) (w:World) (hn₀:n₀<=w.heap.size) (hS:¬S Bs) (hB:Boxed w Bs 27 (.slice ao zs.length cap)) (hc:mo n₀ w ao zs):
 xI Tryz.prog 118 #[.pointer (some ⟨Bs,0,none⟩)] abl n₀ S zs w 0:=by
 intro l J Jx W hW _ _ _ hY h0;have jE:Boxed W Bs 27 (.slice ao zs.length cap):=(hW.block Bs hB.lt).trans hB;have hcW:=hc.below (hW.mono hn₀);have hb0:=jE.cell;have HN:Hid (n₀<=W.heap.size):=acA hn₀ hW.size;clear hc hB hW;refine(callsIn_wide (n:=5)).1 ?_;refine callsIn_of_wp Tryz.func118 rfl trivial ?_ rfl;simp only[Tryz.ntmps118,adO,abS,acY,Nat.reduceAdd,Nat.reduceSub,adB,adC,adP,adF,acs,acZ]
 gi_wp2
 gi_loopw [6] (fun i wr=>∃k:Nat,k<=zs.length/\i= .int .i64 k/\J (zs.take k) wr/\dc n₀ S W wr/\W.heap.size<=wr.heap.size) (fun i _=>zs.length-(intOf i).toNat)
 case atStart=>exact⟨0,ab6 _,rfl,by simpa using h0,dc.refl _ _ _,aad _⟩
 case round=>
  obtain⟨k,hk,rfl,hJs,jd,hsz⟩:=hrel;by_cases hlt:k<zs.length
  .obtain⟨z,hz0⟩:∃z,zs[k]? =some z:=⟨_,aac hlt⟩
   obtain⟨b,o,rfl,yD,hcz⟩:=hcW k z hz0;have hb1:wr.cell? ⟨Bs,0,none⟩=some (.slice (some ⟨b,o,none⟩) zs.length cap):=jd.cell hb0 hS;have hc1:wr.cell? ⟨b,o+k,none⟩=some (.int .i64 z):=(jd.1.cell (p:=⟨b,o+k,none⟩) yD).trans hcz;obtain⟨fn,tmps,assign,body,hy,hR⟩:=hY (zs.take k) z wr (zB hz0) hJs (by omega) 4;have vU:zs.take (k+1)=zs.take k++[z]:=by
    rw[ade,hz0];rfl
   have hk0:(0:Int)<=(k:Int):=by omega
   have hk1:(k:Int)<(zs.length:Int):=by omega
   have mW:=ζ vU;have HJ:=ζ hJs;have kD:=ζ jd;have ER:=ζ hsz;clear vU hJs jd hY hcz hz0 hsz
   gi_wp2
   refine hR.mono ?_;rintro e W3 ⟨pX,(⟨rfl,hJ3,hk3⟩|⟨rfl,hJx3⟩)⟩
   .have EX:=ζ hJ3
    have xL:=ζ hk3;have xK:=ζ pX.size;clear hJ3 hk3 pX
    gi_wp2
    go_roundw
    case rel=>exact⟨k+1,by omega,by go_num,by rw[mW.out];exact EX.out,kD.out.trans xL.out,acA ER.out xK.out⟩
    case measure=>simp[intOf];omega
   .have Mp:=ζ hJx3
    clear hJx3
    gi_wp2
    refine bodyPost_ret (results_none rfl _ _ _) rfl ?_;exact⟨⟨_,rfl⟩,.inr ⟨_,by rw[<-mW.out];exact afh _ _,Mp.out⟩⟩
  .have hd:¬((k:Int)<(zs.length:Int)):=by omega
   have HJ:Hid (J zs wr):=by
    show J zs wr;rw[acL (by omega)] at hJs;exact hJs
   clear hJs jd hY
   gi_wp2
   go_end0
   exact⟨⟨_,rfl⟩,.inl HJ.out⟩
end
section
open Go.RowKit Go.Shelf
theorem zP {n:Nat} {es:List (Int×Int)} {v:Nat} (hv:v<n) {x:Int}:x∈Cs.gO n es v↔∃i:Nat,x=(i:Int)/\i<2*es.length/\Cs.fr es i=v:=by
 unfold Cs.gO;rw[Cs.kL hv,abT];constructor
 .rintro⟨i,hi,rfl⟩
  obtain⟨j,hj⟩:=ac5 hi;obtain⟨h1,h2,_⟩:=Cs.kK hj;exact⟨i,rfl,h1,h2⟩
 .rintro⟨i,rfl,h1,h2⟩
  exact⟨i,aah (Cs.H9 h1 h2),rfl⟩
theorem A9 {α:Type} (q:α->Bool) {pre zs:List α} (h:pre <+: zs):pre.filter q <+: zs.filter q:=h.filter q
theorem rZ {α:Type} (q:α->Bool) (pre:List α) (x:α):(pre++[x]).filter q=if q x=true then pre.filter q++[x] else pre.filter q:=by
 rw[aeV];by_cases h:q x=true
 .rw[if_pos h,aep h];rfl
 .rw[if_neg h,ae3 h];simp
theorem AK {β:Type} {B B':Nat} {J:β->World->Prop} (h:OwnFrom B J) (hB:B<=B'):OwnFrom B' J:=fun s X Y row hs hg hr=>h s X Y row hs hg (fun r e=>⟨acA hB (hr r e).1,(hr r e).2⟩)
theorem Nn {β:Type} {B:Nat} {J:β->World->Prop} (h:OwnFrom B J) {t:β} {X Y:World} (hs:J t X) (hb:Below X.heap.size X Y):J t Y:=
 h t X Y none hs ⟨hb.os,hb.tape,hb.output,hb.size,fun k hk _=>hb.block k hk⟩ (fun r e=>by cases e)
namespace Lo
end Lo
theorem Sh {B:Nat} {A X:World} (h:Below A.heap.size A X):KeepsFrom B A X:=⟨h.size,fun k _ _ h0 _=>(h.block k (abR.1 h0).1).trans h0⟩
def Mc (n:Nat) (es:List (Int×Int)) (x:Int) (w0 w:World) (e:Ending) (w':World):Prop:=
 ∃Bs ao cap,e= .returned (.func (.func 118) #[] #[.pointer (some ⟨Bs,0,none⟩)])/\Bs=w.heap.size/\Boxed w' Bs 27 (.slice ao (Cs.gO n es x).length cap)/\bV w0 ao (Cs.gO n es x)/\Below w.heap.size w w'
theorem LO (v:Value) (n:Nat) (es:List (Int×Int)) (x:Int) (w0 w:World) (h:bK w0 v n es) (hb:Below w0.heap.size w0 w):Calls Tryz.prog 100 #[v,.int .i64 x] w (Mc n es x w0 w):=by
 have HL:=ζ (yt v n es x w0 w h hb);clear h hb;go_enter Tryz.func100,Tryz.ntmps100;go_wp2_with (go_at_call 80;refine HL.out.mono ?_;rintro e w1 ⟨ao,cap,rfl,hi,k,hw⟩;have HI:=ζ hi;have HW:=ζ hw;clear hi hw);go_ret;have hw:=HW.out;have hi:=HI.out;subst hw;exact⟨w.heap.size,ao,cap,rfl,rfl,aer (w.drewN k) _ _,hi,(below_drewN (aae _ _) k).alloc (aad _) _⟩
end
section
open Go.Proofs.Tryz
open Go.RowKit Go.Shelf
attribute [local go_sem] Oper.semAt_some
namespace Lo
def wb (s:Df.St) (h:Int):Bool:=decide (Df.at_ s.aT (h.toNat/2)=h)
def I2 (n:Nat) (es:List (Int×Int)) (s:Df.St) (v:Nat):List Int:=(Cs.gO n es v).filter (wb s)
end Lo
theorem Lz {p:Nat} {av:Value} {n:Nat} {es:List (Int×Int)} {f:For} {s:Df.St} (v Bw Bv:Nat) (S:Nat->Prop) (w0 w:World) (hd:Wd w0 p av n es f s) (hb:Below w0.heap.size w0 w) (hv:v<n)
 (bw:Boxed w Bw 116 (.pointer (some ⟨p,0,none⟩))) (bv:Boxed w Bv 3 (.int .i64 (v:Int))) (hSw:¬S Bw) (hS:∀b,S b->b<w.heap.size\/w.heap.size+4<=b):
 xI prog 99 #[.pointer (some ⟨Bw,0,none⟩),.pointer (some ⟨Bv,0,none⟩)] abl w0.heap.size S (Lo.I2 n es s v) w 2:=by
 intro l J Jx W hW hW2 hJ hJx hY h0;have Lm:∀X,Below w0.heap.size w0 X->Wd X p av n es f s:=fun X hX=>hd.later hX
 have hzl:(Cs.gO n es v).length<=8388608:=by
  rw[Cs.FX];have:=Cs.Ia (n:=n) (es:=es) (v:=(v:Int));have:=hd.val.few;omega
 have dJ:Below w0.heap.size w0 W:=hb.trans (hW.mono hb.size);have aa9:Boxed W Bw 116 (.pointer (some ⟨p,0,none⟩)):=(hW.block Bw bw.lt).trans bw;have abb:Boxed W Bv 3 (.int .i64 (v:Int)):=(hW.block Bv bv.lt).trans bv;have Zq:∀b,S b->b<W.heap.size\/W.heap.size+2<=b:=fun b hs=>by
  have h1:=hS b hs;have h2:=hW.size;omega
 have agi:w0.heap.size<=W.heap.size:=dJ.size;obtain⟨Y,VU⟩:∃Y,Y=W.alloc (.cells #[.func (.yield l) #[] #[]] 89):=⟨_,rfl⟩;have Zk:Below W.heap.size W Y:=by rw[VU];exact(aae _ _).alloc (aad _) _
 have byY:Boxed Y W.heap.size 89 (.func (.yield l) #[] #[]):=by rw[VU];exact aer _ _ _
 have anM:Y.heap.size=W.heap.size+1:=by rw[VU];simp
 have ZE:Boxed Y Bw 116 (.pointer (some ⟨p,0,none⟩)):=(Zk.block Bw aa9.lt).trans aa9;have bvY:Boxed Y Bv 3 (.int .i64 (v:Int)):=(Zk.block Bv abb.lt).trans abb;have Fl:Below w0.heap.size w0 Y:=dJ.trans (Zk.mono agi);have HIT:Hid (∀X,Below Y.heap.size Y X->Calls prog 100 #[av,.int .i64 (v:Int)] X (Mc n es (v:Int) w0 X)):=fun X hX=>LO av n es (v:Int) w0 X hd.Fv (Fl.trans (hX.mono Fl.size))
 have HS:Hid (∀X,Below Y.heap.size Y X->(X.cell? ⟨Bw,0,none⟩=some (.pointer (some ⟨p,0,none⟩))/\X.cell? ⟨Bv,0,none⟩=some (.int .i64 (v:Int))/\X.cell? ⟨p,0,none⟩=some av/\Below Y.heap.size Y X)):=fun X hX=>
  ⟨aeZ ((hX.block Bw ZE.lt).trans ZE),aeZ ((hX.block Bv bvY.lt).trans bvY),(Lm X (Fl.trans (hX.mono Fl.size))).c0,hX⟩
 have hbd:Below Y.heap.size Y Y.drew:=(aae _ _).drew;have HYE:=ζ VU;have adt:=hd.Fv;have hval:=hd.val;have IB:=hd.vf;refine(callsIn_wide (n:=9)).1 ?_;refine callsIn_of_wp_marks func99 rfl trivial ?_ rfl;simp only[ntmps99,adO,abS,acY,Nat.reduceAdd,Nat.reduceSub,adB,adC,adP,adF,acs,acZ];refine wpIn_wide.2 ?_;clear VU;go_wp2_with fail;rw[<-HYE.out]
 go_region_held3 (fun X=>X.cell? ⟨Bw,0,none⟩=some (.pointer (some ⟨p,0,none⟩))/\X.cell? ⟨Bv,0,none⟩=some (.int .i64 (v:Int))/\X.cell? ⟨p,0,none⟩=some av/\Below Y.heap.size Y X)
  (exact HS.out _ (by first|assumption|exact hbd))
  ((go_at_call 100;refine(HIT.out _ (by first|assumption|exact hbd)).mono ?_;rintro e w1 ⟨Bs,ao,cap,rfl,OB,yC,hints,hb1⟩;have HBS:Hid (Bs=Y.heap.size):=OB;clear OB;have hb2:Below Y.heap.size Y w1:=aeh (by first|assumption|exact hbd) (hb1.mono (ad9 (by first|assumption|exact hbd)))))
 all_goals
  clear HIT HS hbd HYE adt hW bw bv hS hb;go_wp2;refine(wpIn_wide (n:=9)).1 ?_;have OB:=HBS.out;have anL:Y.heap.size<=w1.heap.size:=hb2.size;have Ea:Below w0.heap.size w0 w1:=Fl.trans (hb2.mono Fl.size);have hW1:Below W.heap.size W w1:=Zk.trans (hb2.mono (by omega));have by1:Boxed w1 W.heap.size 89 (.func (.yield l) #[] #[]):=(hb2.block _ byY.lt).trans byY;have ZF:Boxed w1 Bw 116 (.pointer (some ⟨p,0,none⟩)):=(hb2.block _ ZE.lt).trans ZE;have hSs:¬S Bs:=fun hs=>by
   have h1:=Zq Bs hs;have h2:=OB;omega
  have hSy:¬S W.heap.size:=fun hs=>by
   have:=Zq _ hs;omega
  have UU:mo w0.heap.size w1 ao (Cs.gO n es v):=hints.under Ea;have hJ1:OwnFrom w1.heap.size J:=AK hJ (by omega);have Wm:OwnFrom w1.heap.size Jx:=AK hJx (by omega);clear OB
  refine Cf (n:=9) (gf:=118) (lb:= #[.pointer (some ⟨Bs,0,none⟩)]) (by rfl) (enters_of func118 (by kernel_rfl) rfl)
   (YG Bs w0.heap.size cap S ao (Cs.gO n es v) hzl w1 (by omega) hSs yC UU) (by omega) (fun _=>rfl)
   (fun pre A=>J (pre.filter (Lo.wb s)) A/\dc w0.heap.size S w1 A) (fun c pre A=>c= .ret/\Jx (pre.filter (Lo.wb s)) A)
   (aeN (fun pre X Z row hs hg hr=>hJ1 (pre.filter (Lo.wb s)) X Z row hs hg hr) (dc.own (by omega) (by omega)))
   (fun c pre X Z row hs hg hr=>⟨hs.1,Wm (pre.filter (Lo.wb s)) X Z row hs.2 hg hr⟩)
   ⟨Nn hJ h0 hW1,dc.refl _ _ _⟩
   (fun x a' _=>a'={ tmps:= #[.func (.yield l) #[] #[],.pointer (some ⟨Bw,0,none⟩),.pointer (some ⟨Bv,0,none⟩),.pointer (some ⟨W.heap.size,0,none⟩),.int .i64 x,.pointer (some ⟨p,0,none⟩),.pointer (some ⟨p,0,none⟩),.pointer (some ⟨p,0,none⟩),av,.int .i64 (v:Int),
     .func (.func 118) #[] #[.pointer (some ⟨Bs,0,none⟩)],.int .i64 x,undef,undef,undef,undef,undef,undef,undef,undef,undef,undef,undef,undef,undef,undef,undef,undef,undef],defers:=[] })
   (fun x a'=>ownFrom_pure _ _) ?assign ?body ?done ?stop
  case assign=>
   intro l2 pre x A K _ hi hK
   gi_wp2
   exact hK _ _ (aeC _ _) (dc.refl _ _ _) hi rfl
  case body=>
   rintro l2 pre x a' A ⟨hl2,-⟩ _ hpx ⟨Zs,hkp⟩ rfl;obtain⟨i,rfl,hi,hfr⟩:=(zP hv).1 (hpx.subset (acd pre (aan.2 rfl)));have hA:=Lm A (Ea.trans hkp.1);obtain⟨b4,o4,e4,d4⟩:=hA.aT (v:=i/2) (by omega);have c4:=hA.c4;rw[e4] at c4;have d4i:=d4 A (aae _ _) (i/2) (by omega);have cw:=hkp.cell ZF.cell hSw;have cy:=hkp.cell by1.cell hSy;have hsz:w1.heap.size<=A.heap.size:=hkp.1.size;have i0:(0:Int)<=(i:Int):=by omega
   obtain⟨jh,mM⟩:∃jh,i/2=jh:=⟨_,rfl⟩;have DT:(i:Int).tdiv 2=(jh:Int):=by rw[acG i0];omega
   have KS:(i:Int)/2=(jh:Int):=by omega
   have j0:(0:Int)<=(jh:Int):=by omega
   have j1:(jh:Int)<(es.length:Int):=by omega
   have dH:=hval.few;have NZ:Lo.wb s (i:Int)=decide (Df.at_ s.aT (i/2)=(i:Int)):=rfl;obtain⟨z,hz⟩:∃z,Df.at_ s.aT (i/2)=z:=⟨_,rfl⟩;rw[hz] at d4i NZ;rw[mM] at d4i;have HWB:=ζ NZ;have Aq:=ζ hkp;by_cases hzi:z=(i:Int)
   .subst hzi
    have hw1:Lo.wb s (i:Int)=true:=NZ.trans (decide_eq_true rfl);have hpf:(pre.filter (Lo.wb s))++[(i:Int)] <+: Lo.I2 n es s v:=by
     have:=A9 (Lo.wb s) hpx;rw[rZ,if_pos hw1] at this;exact this
    have HF:Hid ((pre++[(i:Int)]).filter (Lo.wb s)=pre.filter (Lo.wb s)++[(i:Int)]):=by
     show _=_;rw[rZ,if_pos hw1]
    obtain⟨fn,tmps,assign,body,hy,hR⟩:=hY (pre.filter (Lo.wb s)) (i:Int) A hpf Zs (by have:=yC.lt;have h2:=HBS.out;omega) 6;have ER:Hid (W.heap.size<=w1.heap.size):=by show _<=_;omega
    clear NZ hkp hY hpx Zs hpf hw1 hz d4 hA Lm hJ1 Wm UU hSs hSy Zq hfr
    gi_wp2
    refine hR.mono ?_;rintro e W3 ⟨pX,(⟨rfl,hJ3,hk3⟩|⟨rfl,hJx3⟩)⟩
    .have Mo:=ζ pX
     have EX:=ζ hJ3;have xL:=ζ hk3;clear pX hJ3 hk3
     gi_wp2
     exact⟨yw Mo.out ER.out,xL.out,by rw[HF.out];exact EX.out,Aq.out.trans xL.out⟩
    .have Mo:=ζ pX
     have EX:=ζ hJx3;clear pX hJx3
     gi_wp2
     exact⟨yw Mo.out ER.out,rfl,by rw[HF.out];exact EX.out⟩
   .have hw0:Lo.wb s (i:Int)=false:=NZ.trans (decide_eq_false hzi)
    have HF:Hid ((pre++[(i:Int)]).filter (Lo.wb s)=pre.filter (Lo.wb s)):=by
     show _=_;rw[rZ,if_neg (by rw[hw0];decide)]
    have HJ:=ζ Zs;clear NZ hkp hY hpx Zs hw0 hz d4 hA Lm hJ1 Wm UU hSs hSy Zq hfr
    gi_wp2
    refine⟨fun _ h=>(by cases h),?_⟩
    gi_wp2
    exact⟨aeC _ _,dc.refl _ _ _,by rw[HF.out];exact HJ.out,Aq.out⟩
  case done=>
   rintro D A hD ⟨hJz,Sx⟩ hK
   gi_wp2
   refine⟨by simp,.inl ⟨_,_,rfl,run_takeDeferred hK,?_⟩⟩;exact⟨_,results_none rfl _ _ _,⟨_,rfl⟩,.inl (hJ.putObj _ hJz (by omega) hK rfl)⟩
  case stop=>
   rintro D c pre A hD hpre ⟨rfl,hJz⟩ hK
   gi_wp2
   refine⟨by simp,.inl ⟨_,_,rfl,run_takeDeferred hK,?_⟩⟩;exact⟨_,results_none rfl _ _ _,⟨_,rfl⟩,.inr ⟨_,A9 _ hpre,hJx.putObj _ hJz (by omega) hK rfl⟩⟩
end
end Go.Proofs.YtbhdibflpjhpaaaGreat
