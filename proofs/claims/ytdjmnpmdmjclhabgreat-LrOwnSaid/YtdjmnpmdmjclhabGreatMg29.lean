import Derived.Test.YtdjmnpmdmjclhabGreatMg28
import Derived.Test.YtdjmnpmdmjclhabGreatMg04
import Derived.Lib.SliceRun
namespace Go.Proofs.YtdjmnpmdmjclhabGreat
section
open Go.RowKit
structure eD (w0 w:World) (p q gp gb:Nat) (av:Value) (f:For) (s:Df.St) (n:Nat) (v:Value) (P B W:List Int):Prop where
 rd:aN w0 w p av f s (.slice (some ⟨gp,0,none⟩) n n) (.slice (some ⟨gb,0,none⟩) n n)
 ip:aq w gp P
 ib:aq w gb B
 st:iw w q 0 #[v] 103 w0.heap.size v W.reverse
 ne:p≠gp∧p≠gb∧p≠q∧gp≠gb∧gp≠q∧gb≠q
 lo:w0.heap.size≤gp∧w0.heap.size≤gb∧w0.heap.size≤q
 far:v.ownBlock≠some p∧v.ownBlock≠some gp∧v.ownBlock≠some gb
section
variable {w0 w w':World} {p q gp gb:Nat} {av:Value} {f:For} {s:Df.St} {n:Nat} {v:Value} {P B W:List Int}
theorem iw.later {b o B:Nat} {cs:Array Value} {T:TypeId} {v:Value} {K:List Int} (h:iw w b o cs T B v K) (hb:Below w.heap.size w w'):iw w' b o cs T B v K:=⟨(hb.block b h.lt).trans h.blk,h.at_,h.own.later hb,h.far⟩
theorem eD.later (h:eD w0 w p q gp gb av f s n v P B W) (hb:Below w.heap.size w w'):eD w0 w' p q gp gb av f s n v P B W:=⟨h.rd.later hb,h.ip.later hb,h.ib.later hb,h.st.later hb,h.ne,h.lo,h.far⟩
theorem eD.PX (h:eD w0 w p q gp gb av f s n v P B W) (u:Nat) (x:Int):eD w0 (w.setCell ⟨gb,u,none⟩ (.int .i64 x)) p q gp gb av f s n v P (B.set u x) W:=by
 obtain⟨n1,n2,n3,n4,n5,n6⟩:=h.ne
 exact⟨h.rd.aK (aaR n2) h.lo.2.1,h.ip.aK n4 _,h.ib.set u x,⟨(cN (aaR n6) _).trans h.st.blk,h.st.at_,h.st.own.aK h.far.2.2 _,h.st.far⟩,h.ne,h.lo,h.far⟩
theorem eD.popped {x:Int} {e:Ending} {W':List Int} (h:eD w0 w p q gp gb av f s n v P B W) (hp:vN q 0 #[v] 103 w0.heap.size v W'.reverse x w e w'):∃v',eD w0 w' p q gp gb av f s n v' P B W':=by
 obtain⟨_,v',hst,hat,hw⟩:=hp
 obtain⟨n1,n2,n3,n4,n5,n6⟩:=h.ne
 have hB:=h.rd.aI.size
 have keep:∀b,b<w.heap.size→b≠q→w'.heap[b]? =w.heap[b]? :=fun b hb h1=>hw.block b hb h1
 exact⟨v',⟨h.rd.aI.trans (hw.below hB fun k hk=>by subst hk;exact h.lo.2.2),(keep p h.rd.lt n3).trans h.rd.blk,h.rd.lo⟩,(keep gp h.ip.lt n5).trans h.ip,(keep gb h.ib.lt n6).trans h.ib,hst,h.ne,h.lo,by rw[hat];exact h.far⟩
theorem eD.pushed {e:Ending} {x:Int} (h:eD w0 w p q gp gb av f s n v P B W) (hp:sI q 0 #[v] 103 w0.heap.size v (W.reverse++[x]) w e w'):∃v',eD w0 w' p q gp gb av f s n v' P B (x::W):=by
 obtain⟨_,v',hst,hat,hw⟩:=hp
 obtain⟨n1,n2,n3,n4,n5,n6⟩:=h.ne
 have hB:=h.rd.aI.size
 have keep:∀b,b<w.heap.size→b≠q→v.ownBlock≠some b→w'.heap[b]? =w.heap[b]? :=fun b hb h1 h2=>hw.block b hb (fun e=>e.elim h1 h2)
 have hnew:∀b,b<w.heap.size→v.ownBlock≠some b→v'.ownBlock≠some b:=fun b hb hne e=>by
  rcases hat with e1|⟨g,e1,hg⟩
  ·exact hne (e1.symm.trans e)
  ·rw[e1] at e
   have:=aak e
   omega
 refine⟨v',⟨h.rd.aI.trans (hw.below hB fun k hk=> ?_),(keep p h.rd.lt n3 h.far.1).trans h.rd.blk,h.rd.lo⟩,(keep gp h.ip.lt n5 h.far.2.1).trans h.ip,(keep gb h.ib.lt n6 h.far.2.2).trans h.ib,?_,h.ne,h.lo,hnew p h.rd.lt h.far.1,hnew gp h.ip.lt h.far.2.1,hnew gb h.ib.lt h.far.2.2⟩
 ·rcases hk with rfl|hk
  ·exact h.lo.2.2
  ·exact(h.st.own.lt hk).1
 ·rw[abm]
  exact hst
def yN (w0:World) (p q gp gb:Nat) (av:Value) (f:For) (s:Df.St) (n:Nat) (P:List Int) (u i:Int) (T:List Int×List Int) (w:World) (k:Nat):Prop:=
 ∃v B W,W.length=k∧eD w0 w p q gp gb av f s n v P B W∧Df.leave u i W B=T∧B.length=n∧∀x∈W,0≤x∧x<(n:Int)
def Cf (w0:World) (p q gp gb:Nat) (av:Value) (f:For) (s:Df.St) (n:Nat) (P:List Int) (T:List Int×List Int) (e:Ending) (w':World):Prop:=
 e= .returned (.tuple #[])∧∃v,eD w0 w' p q gp gb av f s n v P T.2 T.1
set_option maxRecDepth 100000 in
set_option maxHeartbeats 8000000 in
theorem AX (u i:Int) (h:eD w0 w p q gp gb av f s n v P B W) (hB:B.length=n) (hW:∀x∈W,0≤x∧x<(n:Int)) (hl:W.length≤1048576):
 Calls Tryz.prog 162 #[.pointer (some ⟨p,0,none⟩),.pointer (some ⟨q,0,none⟩),.int .i64 u,.int .i64 i] w (Cf w0 p q gp gb av f s n P (Df.leave u i W B)):=by
 obtain⟨T,hT⟩:∃T,Df.leave u i W B=T:=⟨_,rfl⟩
 have HI:Hid (yN w0 p q gp gb av f s n P u i T w W.length):=⟨v,B,W,rfl,h,hT,hB,hW⟩
 rw[hT]
 have HL:=Nu.hid hl
 clear h hT hB hW hl
 go_enter Tryz.func162,Tryz.ntmps162
 go_wp2
 go_loopw [8] (fun _ wr=>∃k,k≤W.length∧yN w0 p q gp gb av f s n P u i T wr k) (fun _ wr=>leastOf (yN w0 p q gp gb av f s n P u i T wr))
 case atStart=>exact⟨_,aad _,HI.out⟩
 case round=>
  obtain⟨k0,MI,hk0⟩:=hrel
  obtain⟨hI,hle⟩:=leastOf_spec hk0
  obtain⟨k,hk⟩:∃k,leastOf (yN w0 p q gp gb av f s n P u i T wr)=k:=⟨_,rfl⟩
  rw[hk] at hI hle
  have xO:Hid (∀V k',yN w0 p q gp gb av f s n P u i T V k'→k'<k→leastOf (yN w0 p q gp gb av f s n P u i T V)<leastOf (yN w0 p q gp gb av f s n P u i T wr)):=fun V k' h1 h2=>by
   rw[hk]
   have:=(leastOf_spec h1).2
   omega
  have HKL:Hid (k≤W.length):=show k≤W.length by omega
  have cU:k≤1048576:=by have:=HL.out;have:=HKL.out;omega
  clear hk hk0 hle MI
  obtain⟨v1,B1,W1,hW1,hs,hT,hB1,hr1⟩:=hI
  cases W1 with
  |nil=>
   have he:=mX q 0 _ _ _ _ _ wr hs.st
   have xu:decide (([]:List Int).reverse.length=0)=true:=rfl
   rw[xu] at he
   have HE:=Nu.hid he
   have bI:Hid (∃v,eD w0 wr p q gp gb av f s n v P T.2 T.1):=⟨v1,by rw[←hT];exact hs⟩
   clear he hs hT xu hr1 hB1 hW1
   go_wp2_with (go_at_call 74;refine HE.out.mono ?_;rintro e w2 ⟨rfl,hw2⟩;obtain rfl:=hw2.symm)
   go_end0
   exact⟨rfl,bI.out⟩
  |cons x W1=>
   have hst:=hs.st
   rw[abm] at hst
   have hlen:W1.reverse.length≤17592186044000:=by rw[abg];simp at hW1;omega
   have he:=mX q 0 _ _ _ _ _ wr hst
   have xu:decide ((W1.reverse++[x]).length=0)=false:=by simp
   rw[xu] at he
   have HE:=Nu.hid he
   have lY:Hid (Calls Tryz.prog 104 #[.pointer (some ⟨q,0,none⟩)] wr fun e w'=>e= .returned (.int .i64 x)∧∃k,w'=wr.drewN k):=Gt q 0 _ _ _ _ W1.reverse x wr hst hlen
   by_cases hx:x=u
   ·have t1:(x != u)=false:=by simp[hx]
    have bI:Hid (∀d,∃v,eD w0 (wr.drewN d) p q gp gb av f s n v P T.2 T.1):=fun d=>⟨v1,by
     rw[←hT]
     unfold Df.leave
     rw[if_pos hx]
     exact hs.later (below_drewN (aae _ _) d)⟩
    clear he hs hT xu hr1 hB1 hW1 hst hx
    go_wp2_with (first|(go_at_call 74;refine HE.out.mono ?_;rintro e w2 ⟨rfl,hw2⟩;obtain rfl:=hw2.symm)|(go_at_call 104;refine lY.out.mono ?_;rintro e w3 ⟨rfl,d,rfl⟩))
    go_end0
    exact⟨rfl,bI.out d⟩
   ·have t1:(x != u)=true:=by simp[hx]
    have hx0:=hr1 x aag
    obtain⟨y,rfl⟩:∃y:Nat,x=(y:Int):=⟨x.toNat,by omega⟩
    have y0:(0:Int)≤(y:Int):=by omega
    have y1:(y:Int)<(n:Int):=by omega
    have jT:Hid (∀V,Below wr.heap.size wr V→Calls Tryz.prog 75 #[.pointer (some ⟨q,0,none⟩)] V fun e V'=>e= .returned (.int .i64 (y:Int))∧V'.cell? ⟨p,6,none⟩=some (.slice (some ⟨gb,0,none⟩) n n)∧(∃c,V'.cell? ⟨gb,y,none⟩=some (.int .i64 c))∧V'.frozen? ⟨gb,y,none⟩=false∧(V'.setCell ⟨gb,y,none⟩ (.int .i64 i)).cell? ⟨p,6,none⟩=some (.slice (some ⟨gb,0,none⟩) n n)∧yN w0 p q gp gb av f s n P u i T (V'.setCell ⟨gb,y,none⟩ (.int .i64 i)) W1.length):=fun V hV=>by
     have hsV:=hs.later hV
     have ad3:=hst.later hV
     refine(GX q 0 _ _ _ _ W1.reverse (y:Int) V ad3 hlen).mono ?_
     intro e V' hp
     obtain⟨v2,h2⟩:=hsV.popped hp
     have h3:=h2.PX y i
     refine⟨hp.1,h2.rd.c6,⟨_,h2.ib.cell (cQ (-1) (by omega:y<B1.length))⟩,h2.ib.free y,h3.rd.c6,v2,B1.set y i,W1,rfl,h3,?_,by simp[hB1],fun z hz=>hr1 z (aah _ hz)⟩
     rw[←hT]
     conv=>rhs;unfold Df.leave
     rw[if_neg hx,aaF]
    have HS:Hid (∀V,Below wr.heap.size wr V→V.cell? ⟨p,6,none⟩=some (.slice (some ⟨gb,0,none⟩) n n)):=fun V hV=>(hs.later hV).rd.c6
    have vW:Hid (W1.length<k):=show W1.length<k by simp at hW1;omega
    clear he hs hT xu hr1 hB1 hW1 hst hx hlen hx0
    go_wp2_with (first|(go_at_call 74;refine HE.out.mono ?_;rintro e w2 ⟨rfl,hw2⟩;obtain rfl:=hw2.symm)|(go_at_call 104;refine lY.out.mono ?_;rintro e w3 ⟨rfl,d,rfl⟩))
    have hbd:Below wr.heap.size wr (wr.drewN d).drew:=(below_drewN (aae _ _) _).drew
    have ru:Below wr.heap.size wr (wr.drewN (d+1)):=below_drewN (aae _ _) _
    go_region_held3 (fun V=>V.cell? ⟨p,6,none⟩=some (.slice (some ⟨gb,0,none⟩) n n))
     (first|assumption|exact HS.out _ (by first|assumption|exact hbd|exact ru))
     ((go_at_call 75;refine(jT.out _ (by first|assumption|exact hbd|exact ru)).mono ?_;rintro e V1 ⟨rfl,q1,⟨c1,q2⟩,q3,q4,q5⟩))
    all_goals
     have Q5:=Nu.hid q5
     clear q5
     go_wp2
     go_roundw
     case rel=>exact⟨_,by have:=HKL.out;have:=vW.out;omega,Q5.out⟩
     case measure=>exact xO.out _ _ Q5.out vW.out
end
end
section
open Go.RowKit
def O5 (w0:World) (p gp:Nat) (av:Value) (f:For) (s:Df.St) (n:Nat) (es:List (Int×Int)) (P:List Int) (e:Ending) (w':World):Prop:=
 (∃gb W B,e= .returned (.bool true)∧Df.side n es s n=some (W,B)∧aN w0 w' p av f s (.slice (some ⟨gp,0,none⟩) n n) (.slice (some ⟨gb,0,none⟩) n n)∧aq w' gp P∧aq w' gb (Df.ends n W B))∨(e= .returned (.bool false)∧Df.side n es s n=none∧Below w0.heap.size w0 w')
section
variable {w0 w:World} {p gp:Nat} {av:Value} {f:For} {s:Df.St} {pv bv:Value} {n:Nat} {es:List (Int×Int)} {P:List Int}
set_option maxRecDepth 100000 in
set_option maxHeartbeats 16000000 in
theorem lD (aW:cE w0 av n es) (hF:dI w0 f s) (hL:Df.tu n es s) (ho:Df.iy n s n) (h:aN w0 w p av f s (.slice (some ⟨gp,0,none⟩) n n) bv) (hip:aq w gp P) (hne:gp≠p) (hlg:w0.heap.size≤gp):
 Calls Tryz.prog 153 #[.pointer (some ⟨p,0,none⟩)] w (O5 w0 p gp av f s n es P):=by
 obtain⟨i0,hi,hz0,hz1,hz2⟩:=info_parts Tryz.bO
 obtain⟨C8,mh⟩:=aW.bounds
 obtain⟨l1,l2,l3,l4⟩:=hL
 obtain⟨a1,a2,a3,a4,k1,k2,k3,k4⟩:=f
 have kC:∃q,av= .pointer q:=by
  rcases aW with ⟨h,_⟩|⟨_,p,h,_⟩
  ·exact⟨_,h⟩
  ·exact⟨_,h⟩
 obtain⟨qa,rfl⟩:=kC
 have c0:=h.c0
 have HN:=Nu.hid (mm (.pointer qa) n es w (aW.later h.aI))
 have hmk:∀V,(Instr.makeSlice 27 (.int .i64 (n:Int)) (.int .i64 (n:Int))).run Tryz.prog V= .ok (.slice (some ⟨V.heap.size,0,none⟩) n n) (V.alloc (.cells (madeCells #[.int .i64 0] n) 3)):=fun V=>by
  have:=run_make (P:=Tryz.prog) V 27 3 i0 (.int .i64 0) Tryz.underlying27 hi hz0 .i64 .i64 (n:Int) (n:Int) (by omega) (abE _) (by rw[hz2];omega) (by omega)
  rw[this,hz1]
  simp[Value.cells]
 have Vm:=h.lt
 have alg:=hip.lt
 have f6:=h.free 6
 have c6:=h.c6
 obtain⟨w1,hw1⟩:∃w1,w1=w.setCell ⟨p,6,none⟩ (.slice (some ⟨w.heap.size,0,none⟩) n n):=⟨_,rfl⟩
 have h1:=h.PX (.slice (some ⟨w.heap.size,0,none⟩) n n)
 have Ry:=hip.aK (i:=6) (b:=p) hne (.slice (some ⟨w.heap.size,0,none⟩) n n)
 rw[←hw1] at h1 Ry
 have hs1:w1.heap.size=w.heap.size:=by rw[hw1];simp
 obtain⟨w2,hw2⟩:∃w2,w2=w1.alloc (.cells (madeCells #[.int .i64 0] n) 3):=⟨_,rfl⟩
 have hb2:Below w1.heap.size w1 w2:=by rw[hw2];exact(aae _ _).alloc (aad _) _
 have Yj:aq w2 w.heap.size (List.replicate n 0):=by
  unfold aq
  rw[hw2,alloc_at hs1,←cD]
 have h2:=h1.later hb2
 have Yg:=Ry.later hb2
 obtain⟨w3,hw3⟩:∃w3,w3=w2.alloc (.cells #[.slice none 0 0] 103):=⟨_,rfl⟩
 have hb3:Below w2.heap.size w2 w3:=by rw[hw3];exact(aae _ _).alloc (aad _) _
 have hs2:w2.heap.size=w.heap.size+1:=by rw[hw2];simp[hs1]
 have QG:=h.aI.size
 have KJ:eD w0 w3 p (w.heap.size+1) gp w.heap.size (.pointer qa) ⟨a1,a2,a3,a4,k1,k2,k3,k4⟩ s n (.slice none 0 0) P (List.replicate n 0) []:=by
  refine⟨h2.later hb3,Yg.later hb3,Yj.later hb3,⟨?_,rfl,.nil _ _,by simp[Value.ownBlock]⟩,⟨aaR hne,by omega,by omega,by omega,by omega,by omega⟩,⟨hlg,QG,by omega⟩,by simp[Value.ownBlock]⟩
  rw[hw3]
  exact alloc_at hs2
 have c3:=KJ.rd.c3
 have TB:=Nu.hid KJ
 have jE:=Nu.hid hw1
 have jD:=Nu.hid hw2
 have nu:=Nu.hid hw3
 have cT:=Nu.hid aW
 have HF:=Nu.hid hF
 have HO:=Nu.hid ho
 dsimp only at c3
 rw[hw3,hw2,hw1] at c3
 clear aW hF ho h hip h1 Ry hb2 h2 Yj Yg hb3 KJ hw1 hw2 hw3
 go_enter Tryz.func153,Tryz.ntmps153
 go_wp2_with (go_at_call 46;refine HN.out.mono ?_;rintro e w4 ⟨rfl,hw4⟩;obtain rfl:=hw4.symm)
 rw[←jE.out,←jD.out,←nu.out]
 obtain⟨Q,hQ⟩:∃Q,w.heap.size+1=Q:=⟨_,rfl⟩
 obtain⟨gb,hgb⟩:∃gb,w.heap.size=gb:=⟨_,rfl⟩
 rw[hgb] at hQ
 rw[hgb,hQ] at TB ⊢
 clear hmk c0 c6 f6 c3 jE jD nu
 go_loopw [22] (fun c wr=>∃(k:Nat) (W B:List Int) (v:Value),k≤n∧c= .int .i64 k∧Df.side n es s k=some (W,B)∧eD w0 wr p Q gp gb (.pointer qa) ⟨a1,a2,a3,a4,k1,k2,k3,k4⟩ s n v P B W) (fun c _=>n-(intOf c).toNat)
 case atStart=>exact⟨0,[],List.replicate n 0,_,aax _,rfl,rfl,TB.out⟩
 case round=>
  obtain⟨k,W,B,v,hk,rfl,aM,hs⟩:=hrel
  obtain⟨hrg,VE,hBl⟩:=Df.qE HO.out hk aM
  have c1:=hs.rd.c1
  have c0:=hs.rd.c0
  have c3:=hs.rd.c3
  dsimp only at c1 c3
  rw[l1] at c1
  rw[l3] at c3
  by_cases hlt:k<n
  ·have lV:(k:Int)<(n:Int):=by omega
   have hk0:(0:Int)≤(k:Int):=by omega
   have hxr:=(HO.out k hlt).1
   obtain⟨b3,o3,e3,d3⟩:=cg (HF.out.later hs.rd.aI).l3 (i:=k) (by omega)
   dsimp only at e3
   subst e3
   obtain⟨x,hx⟩:∃x,s.ord.getD k (-1)=x:=⟨_,rfl⟩
   have mN:Df.at_ s.ord k=x:=hx
   rw[hx] at d3
   rw[mN] at hxr
   obtain⟨y,rfl⟩:∃y:Nat,x=(y:Int):=⟨x.toNat,by omega⟩
   have y0:(0:Int)≤(y:Int):=by omega
   have y1:(y:Int)<(n:Int):=by omega
   obtain⟨b1,o1,e1,d1⟩:=cg (HF.out.later hs.rd.aI).l1 (i:=y) (by omega)
   dsimp only at e1
   subst e1
   obtain⟨z,hz⟩:∃z,s.par.getD y (-1)=z:=⟨_,rfl⟩
   rw[hz] at d1
   obtain⟨u,hu⟩:∃u,Cs.FE es z=u:=⟨_,rfl⟩
   have eP:Df.up es s (Df.at_ s.ord k)=u:=by
    rw[mN]
    unfold Df.up
    rw[aaF]
    have:Df.at_ s.par y=z:=hz
    rw[this,hu]
   have jV:Hid (∀V,Below wr.heap.size wr V→Calls Tryz.prog 102 #[.pointer qa,.int .i64 z] V fun r V'=>r= .returned (.int .i64 u)∧V'=V):=fun V hV=>by
    have:=kF (.pointer qa) n es z V (cT.out.later (hs.later hV).rd.aI)
    rw[hu] at this
    exact this
   have WO:Hid (∀V,Below wr.heap.size wr V→Calls Tryz.prog 162 #[.pointer (some ⟨p,0,none⟩),.pointer (some ⟨Q,0,none⟩),.int .i64 u,.int .i64 (k:Int)] V (Cf w0 p Q gp gb (.pointer qa) ⟨some ⟨b1,o1,none⟩,a2,some ⟨b3,o3,none⟩,a4,k1,k2,k3,k4⟩ s n P (Df.leave u k W B))):=fun V hV=>AX u k (hs.later hV) hBl hrg (by omega)
   have l9:Df.side n es s (k+1)=if u≠-1∧(Df.leave u k W B).1=[] then none else some ((y:Int)::(Df.leave u k W B).1,(Df.leave u k W B).2):=by
    conv=>lhs;unfold Df.side
    rw[aM,acj]
    dsimp only
    rw[eP,mN]
   have IW:(Df.leave u k W B).1.length≤k:=by
    obtain⟨X,hX,_,_⟩:=Df.mK (p:=u) (i:=(k:Int)) W B
    have:=congrArg List.length hX
    rw[aaA] at this
    omega
   obtain⟨T,hT⟩:∃T,Df.leave u k W B=T:=⟨_,rfl⟩
   rw[hT] at WO l9 IW
   have mo:=Nu.hid l9
   clear hT l9 eP hu hz hx mN hxr hrg VE hBl aM hs c3
   go_wp2_with fail
   go_quiet ((go_at_call 102;exact acy (jV.out _ (below_drewN (aae _ _) _))))
   go_wp2_with (go_at_call 162;refine(WO.out _ (below_drewN (aae _ _) _)).mono ?_;rintro e w5 ⟨rfl,v5,h5⟩;refine aaB ?_)
   refine Nu.hid ?_
   have hem:=mX Q 0 _ _ _ _ _ w5 h5.st
   have Bg:=(wQ Q 0 _ _ _ _ T.1.reverse (y:Int) w5 h5.st h5.rd.aI.size (by rw[abg];omega)).mono (R':=fun e w'=>e= .returned (.tuple #[])∧∃v',eD w0 w' p Q gp gb (.pointer qa) ⟨some ⟨b1,o1,none⟩,a2,some ⟨b3,o3,none⟩,a4,k1,k2,k3,k4⟩ s n v' P T.2 ((y:Int)::T.1)) (fun e w' hp=>⟨hp.1,h5.pushed hp⟩)
   have Dt:=Nu.hid Bg
   have wh:=Nu.hid h5.rd.aI
   by_cases hu1:u= -1
   ·have t1:(u != -1)=false:=by simp[hu1]
    have kK:=Nu.hid (mo.out.trans (if_neg (fun h=>h.1 hu1)))
    clear hem Bg h5 hu1
    go_wp2_with (go_at_call 76;refine Dt.out.mono ?_;rintro e w6 ⟨rfl,v6,h6⟩;have H6:=Nu.hid h6;clear h6)
    go_roundw
    case rel=>exact⟨k+1,_,_,v6,by omega,by go_num,kK.out,H6.out⟩
    case measure=>simp[intOf];omega
   ·have t1:(u != -1)=true:=by simp[hu1]
    by_cases hTe:T.1=[]
    ·have hd:decide (T.1.reverse.length=0)=true:=by simp[hTe]
     rw[hd] at hem
     have fY:=Nu.hid hem
     have kK:Hid (Df.side n es s n=none):=by
      have e1:Df.side n es s (k+1)=none:=by rw[mo.out,if_pos ⟨hu1,hTe⟩]
      have:=Df.Ag e1 (n-(k+1))
      rw[show k+1+(n-(k+1))=n by omega] at this
      exact this
     clear hem Bg h5 hu1 hTe hd
     go_wp2_with (go_at_call 74;refine fY.out.mono ?_;rintro e w6 ⟨rfl,hw6⟩;obtain rfl:=hw6.symm)
     go_ret
     exact .inr ⟨rfl,kK.out,wh.out⟩
    ·have hd:decide (T.1.reverse.length=0)=false:=by simp[hTe]
     rw[hd] at hem
     have fY:=Nu.hid hem
     have kK:=Nu.hid (mo.out.trans (if_neg (fun h=>hTe h.2)))
     clear hem Bg h5 hu1 hTe hd
     go_wp2_with (first|(go_at_call 74;refine fY.out.mono ?_;rintro e w6 ⟨rfl,hw6⟩;obtain rfl:=hw6.symm)|(go_at_call 76;refine Dt.out.mono ?_;rintro e w6 ⟨rfl,v6,h6⟩;have H6:=Nu.hid h6;clear h6))
     go_roundw
     case rel=>exact⟨k+1,_,_,v6,by omega,by go_num,kK.out,H6.out⟩
     case measure=>simp[intOf];omega
  ·have hd:¬((k:Int)<(n:Int)):=by omega
   obtain rfl:k=n:=by omega
   have WO:=Nu.hid (AX (-1) (k:Int) hs hBl hrg (by omega))
   have HSD:=Nu.hid aM
   have HTE:Hid ((Df.leave (-1) (k:Int) W B).2=Df.ends k W B):=rfl
   clear hs aM hrg hBl VE
   go_wp2_with (go_at_call 162;refine WO.out.mono ?_;rintro e w5 ⟨rfl,v5,h5⟩;have H5:=Nu.hid h5;clear h5)
   go_ret
   exact .inl ⟨gb,W,B,rfl,HSD.out,H5.out.rd,H5.out.ip,H5.out.ib⟩
end
end
section
open Go.RowKit
structure Full (w0 w:World) (p gp gb:Nat) (av:Value) (f:For) (s:Df.St) (n:Nat) (P E:List Int):Prop where
 rd:aN w0 w p av f s (.slice (some ⟨gp,0,none⟩) n n) (.slice (some ⟨gb,0,none⟩) n n)
 ip:aq w gp P
 ib:aq w gb E
 lp:P.length=n
 le:E.length=n
section
variable {w0 w:World} {p gp gb:Nat} {av:Value} {f:For} {s:Df.St} {n:Nat} {es:List (Int×Int)} {P E:List Int}
theorem Full.later {w':World} (h:Full w0 w p gp gb av f s n P E) (hb:Below w.heap.size w w'):Full w0 w' p gp gb av f s n P E:=⟨h.rd.later hb,h.ip.later hb,h.ib.later hb,h.lp,h.le⟩
set_option maxRecDepth 100000 in
set_option maxHeartbeats 8000000 in
theorem GR (u v:Nat) (h:Full w0 w p gp gb av f s n P E) (hu:u<n) (hv:v<n):
 Calls Tryz.prog 163 #[.pointer (some ⟨p,0,none⟩),.int .i64 (u:Int),.int .i64 (v:Int)] w (jB (Df.at_ P u≤Df.at_ P v∧Df.at_ P v<Df.at_ E u) w):=by
 have c5:=h.rd.c5
 have c6:=h.rd.c6
 have d1:=h.ip.cell (cQ (-1) (by rw[h.lp];exact hu:u<P.length))
 have d2:=h.ip.cell (cQ (-1) (by rw[h.lp];exact hv:v<P.length))
 have d3:=h.ib.cell (cQ (-1) (by rw[h.le];exact hu:u<E.length))
 obtain⟨x,hx⟩:∃x,P.getD u (-1)=x:=⟨_,rfl⟩
 obtain⟨y,hy⟩:∃y,P.getD v (-1)=y:=⟨_,rfl⟩
 obtain⟨z,hz⟩:∃z,E.getD u (-1)=z:=⟨_,rfl⟩
 rw[hx] at d1
 rw[hy] at d2
 rw[hz] at d3
 have HQ:Hid ((Df.at_ P u≤Df.at_ P v∧Df.at_ P v<Df.at_ E u)↔(x≤y∧y<z)):=by
  show(P.getD u (-1)≤P.getD v (-1)∧P.getD v (-1)<E.getD u (-1))↔_
  rw[hx,hy,hz]
 have u0:(0:Int)≤(u:Int):=by omega
 have u1:(u:Int)<(n:Int):=by omega
 have v0:(0:Int)≤(v:Int):=by omega
 have v1:(v:Int)<(n:Int):=by omega
 by_cases hxy:x≤y
 ·by_cases hyz:y<z
  ·have HR:=Nu.hid (And.intro hxy hyz)
   clear h hx hy hz
   go_enter Tryz.func163,Tryz.ntmps163
   go_wp2_with fail
   go_quiet (fail)
   go_wp2
   go_ret
   exact⟨true,rfl,by rw[HQ.out];exact⟨fun _=>HR.out,fun _=>rfl⟩,below_drewN (aae _ _) _⟩
  ·have hd:decide (y<z)=false:=by simp only[decide_eq_false_iff_not];exact hyz
   have HR:=Nu.hid hyz
   clear h hx hy hz hyz
   go_enter Tryz.func163,Tryz.ntmps163
   go_wp2_with fail
   go_quiet (fail)
   go_wp2
   go_ret
   exact⟨false,rfl,by rw[HQ.out];exact⟨fun h=>(by cases h),fun h=>(by have h1:=HR.out;have h2:=h.2;omega)⟩,below_drewN (aae _ _) _⟩
 ·have hd:decide (x≤y)=false:=by simp only[decide_eq_false_iff_not];exact hxy
  have HR:=Nu.hid hxy
  clear h hx hy hz hxy
  go_enter Tryz.func163,Tryz.ntmps163
  go_wp2_with fail
  go_quiet (fail)
  go_wp2
  go_ret
  exact⟨false,rfl,by rw[HQ.out];exact⟨fun h=>(by cases h),fun h=>(by have h1:=HR.out;have h2:=h.1;omega)⟩,below_drewN (aae _ _) _⟩
end

end
section
open Go.RowKit
section
variable {w0 w:World} {p gp gb:Nat} {av:Value} {f:For} {s:Df.St} {n:Nat} {es:List (Int×Int)} {P E:List Int}
set_option maxRecDepth 100000 in
set_option maxHeartbeats 16000000 in
theorem qi (aW:cE w0 av n es) (hF:dI w0 f s) (hL:Df.tu n es s) (h:Full w0 w p gp gb av f s n P E)
 (hab:∀u v,u<n→v<n→((Df.at_ P u≤Df.at_ P v∧Df.at_ P v<Df.at_ E u)↔Df.bQ es s u v)):
 Calls Tryz.prog 154 #[.pointer (some ⟨p,0,none⟩)] w (jB (∀e,e<es.length→Df.rQ es s e) w):=by
 obtain⟨C8,mh⟩:=aW.bounds
 obtain⟨l1,l2,l3,l4⟩:=hL
 obtain⟨a1,a2,a3,a4,k1,k2,k3,k4⟩:=f
 have kC:∃q,av= .pointer q:=by
  rcases aW with ⟨h,_⟩|⟨_,p,h,_⟩
  ·exact⟨_,h⟩
  ·exact⟨_,h⟩
 obtain⟨qa,rfl⟩:=kC
 have c4:=h.rd.c4
 dsimp only at c4
 rw[l4] at c4
 obtain⟨m,hm⟩:∃m,es.length=m:=⟨_,rfl⟩
 rw[hm] at c4 mh l4
 have HH:=Nu.hid h
 have cT:=Nu.hid aW
 have HF:=Nu.hid hF
 have HAB:=Nu.hid hab
 have HM:=Nu.hid hm
 rw[hm]
 clear aW hF h hab hm
 go_enter Tryz.func154,Tryz.ntmps154
 go_wp2_with fail
 go_loopw [13] (fun c wr=>∃k:Nat,k≤m∧c= .int .i64 k∧(∀e,e<k→Df.rQ es s e)∧Below w.heap.size w wr) (fun c _=>m-(intOf c).toNat)
 case atStart=>exact⟨0,aax _,rfl,fun e he=>absurd he (Nat.not_lt_zero _),aae _ _⟩
 case round=>
  obtain⟨k,hk,rfl,hdone,ij⟩:=hrel
  have hf:=HH.out.later ij
  have WX:=Nu.hid hdone
  have jY:=Nu.hid ij
  by_cases hlt:k<m
  ·have lV:(k:Int)<(m:Int):=by omega
   have hk0:(0:Int)≤(k:Int):=by omega
   obtain⟨b4,o4,e4,d4⟩:=cg (HF.out.later hf.rd.aI).l4 (i:=k) (by omega)
   dsimp only at e4
   subst e4
   obtain⟨x,hx⟩:∃x,s.aJ.getD k (-1)=x:=⟨_,rfl⟩
   rw[hx] at d4
   have HX:Hid (Df.at_ s.aJ k=x):=hx
   have hmw:IntKind.i64.wrap (2*(k:Int))=2*(k:Int):=by rw[aa1];omega
   have alf:IntKind.i64.wrap (2*(k:Int)+1)=2*(k:Int)+1:=by rw[aa1];omega
   by_cases KZ:x=2*(k:Int)∨x=2*(k:Int)+1
   ·obtain⟨j,rfl⟩:∃j:Nat,x=(j:Int):=⟨x.toNat,by omega⟩
    have hj:j=2*k∨j=2*k+1:=by omega
    have hjl:j<2*es.length:=by rw[HM.out];omega
    have hval:=cT.out.val hjl
    obtain⟨hfl,wY⟩:=Cs.bH hval hjl
    have jV:Hid (∀V,Below wr.heap.size wr V→Calls Tryz.prog 102 #[.pointer qa,.int .i64 (j:Int)] V fun r V'=>r= .returned (.int .i64 (Cs.fr es j:Int))∧V'=V):=by
     intro V hV
     have:=kF (.pointer qa) n es j V (cT.out.later (hf.later hV).rd.aI)
     rw[Cs.jP hjl] at this
     exact this
    have jF:Hid (∀V,Below wr.heap.size wr V→Calls Tryz.prog 92 #[.pointer qa,.int .i64 (j:Int)] V fun r V'=>r= .returned (.int .i64 (Cs.to es j:Int))∧V'=V):=by
     intro V hV
     have:=l7 (.pointer qa) n es j V (cT.out.later (hf.later hV).rd.aI)
     rw[Cs.kL hjl] at this
     exact this
    obtain⟨a,ha⟩:∃a,Cs.fr es j=a:=⟨_,rfl⟩
    obtain⟨b,hb⟩:∃b,Cs.to es j=b:=⟨_,rfl⟩
    rw[ha] at hfl jV
    rw[hb] at wY jF
    have hHB:=HAB.out b a wY hfl
    obtain⟨b1,o1,e1,d1⟩:=cg (HF.out.later hf.rd.aI).l1 (i:=b) (by omega)
    dsimp only at e1
    subst e1
    obtain⟨y,hy⟩:∃y,s.par.getD b (-1)=y:=⟨_,rfl⟩
    rw[hy] at d1
    have HE:Hid (Df.rQ es s k↔(y=(j:Int)∨Df.bQ es s b a)):=by
     constructor
     ·rintro⟨h,h1,h2,h3⟩
      obtain rfl:h=j:=by rw[HX.out] at h2;omega
      rw[ha,hb] at h3
      have:Df.at_ s.par b=y:=hy
      rw[this] at h3
      exact h3
     ·intro h3
      refine⟨j,hj,HX.out,?_⟩
      rw[ha,hb]
      have:Df.at_ s.par b=y:=hy
      rw[this]
      exact h3
    have hc1:=hf.rd.c1
    have hc0:=hf.rd.c0
    dsimp only at hc1
    rw[l1] at hc1
    have WZ:Hid (∀W k,W=wr.drewN k→W.cell? ⟨p,1,none⟩=some (.slice (some ⟨b1,o1,none⟩) n k1)∧W.cell? ⟨b1,o1+b,none⟩=some (.int .i64 y)∧Below wr.heap.size wr W):=fun W k hW=>by subst hW;exact⟨hc1,d1,below_drewN (aae _ _) _⟩
    have HAV:Hid (∀V,Below wr.heap.size wr V→Calls Tryz.prog 163 #[.pointer (some ⟨p,0,none⟩),.int .i64 (b:Int),.int .i64 (a:Int)] V (jB (Df.bQ es s b a) V)):=fun V hV=>by
     have:=GR b a (hf.later hV) wY hfl
     rw[hHB] at this
     exact this
    have hb0:(0:Int)≤(b:Int):=by omega
    have hb1:(b:Int)<(n:Int):=by omega
    have HYJ:Hid (y=(j:Int)∨y≠(j:Int)):=Classical.em _
    have Mb:Hid (Df.rQ es s k→∀e,e<k+1→Df.rQ es s e):=fun h e he=>by
     by_cases xq:e<k
     ·exact WX.out e xq
     ·obtain rfl:e=k:=by omega
      exact h
    have tg:((j:Int) != 2*(k:Int))=false∨(((j:Int) != 2*(k:Int))=true∧((j:Int) != 2*(k:Int)+1)=false):=by
     rcases hj with hj|hj
     ·left;simp;omega
     ·right;constructor
      ·simp;omega
      ·simp;omega
    clear hf hval hjl ha hb hx hy hHB hfl wY hc1 d1 KZ hj hdone ij
    rcases tg with tg|⟨tg,tg1⟩
    all_goals
     go_wp2_with fail
     go_quiet ((first
      |(go_at_call 102;exact acy (jV.out _ (below_drewN (aae _ _) _)))
      |(go_at_call 92;exact acy (jF.out _ (below_drewN (aae _ _) _)))))
     obtain⟨W,hW⟩:∃W,W=wr.drewN nq:=⟨_,rfl⟩
     rw[←hW]
     obtain⟨z1,z2,dS⟩:=WZ.out W nq hW
     have jW:=Nu.hid dS
     clear hW dS
     rcases HYJ.out with KF|KF
     ·have t1:(y != (j:Int))=false:=by simp[KF]
      have HY:=Nu.hid KF
      clear KF
      go_wp2
      go_roundw
      case rel=>exact⟨k+1,by omega,by go_num,Mb.out (HE.out.2 (.inl HY.out)),jY.out.trans (jW.out.mono jY.out.size)⟩
      case measure=>simp[intOf];omega
     ·have t1:(y != (j:Int))=true:=by simp[KF]
      have HY:=Nu.hid KF
      clear KF
      go_wp2_with (go_at_call 163;refine(HAV.out _ jW.out).mono ?_;rintro e w6 ⟨bb,rfl,BG,cq⟩;have nj:=Nu.hid cq;have PA:=Nu.hid BG;clear cq BG;cases bb)
      ·go_ret
       exact⟨false,rfl,⟨fun h=>(by cases h),fun h=>(by
        rcases HE.out.1 (h k hlt) with h1|h1
        ·exact absurd h1 HY.out
        ·exact PA.out.2 h1)⟩,(jY.out.trans (jW.out.mono jY.out.size)).trans (nj.out.mono (abb jY.out.size jW.out.size))⟩
      ·go_roundw
       case rel=>exact⟨k+1,by omega,by go_num,Mb.out (HE.out.2 (.inr (PA.out.1 (by trivial)))),(jY.out.trans (jW.out.mono jY.out.size)).trans (nj.out.mono (abb jY.out.size jW.out.size))⟩
       case measure=>simp[intOf];omega
   ·have t1:(x != 2*(k:Int))=true:=by simp;omega
    have t2:(x != 2*(k:Int)+1)=true:=by simp;omega
    have HG:Hid (¬Df.rQ es s k):=by
     rintro⟨h,h1,h2,_⟩
     rw[HX.out] at h2
     exact KZ (by omega)
    clear KZ hf hx hdone ij
    go_wp2
    go_ret
    exact⟨false,rfl,⟨fun h=>(by cases h),fun h=>absurd (h k hlt) HG.out⟩,jY.out⟩
  ·have hd:¬((k:Int)<(m:Int)):=by omega
   obtain rfl:k=m:=by omega
   clear hf hdone ij
   go_wp2
   go_ret
   exact⟨true,rfl,⟨fun _=>WX.out,fun _=>rfl⟩,jY.out⟩
end

end
end Go.Proofs.YtdjmnpmdmjclhabGreat
