import Derived.Test.YtdbjpbjocmcpkaaGreatDoorMk01
import Derived.Maps.AppendAt
import Derived.Lib.AppendStr
import Derived.Lib.ConvBytes
set_option maxHeartbeats 8000000
set_option maxRecDepth 100000
namespace Go.Proofs.YtdbjpbjocmcpkaaGreatDoor
section
open Go.Proofs.Tryz
open Go.RowKit Go.Sort
theorem wW (xo:Option Addr) (xc:Nat) (xs:List (Int×Int)) (ao:Option Addr) (cap:Nat) (es:List (Int×Int)) (w:World) (hx:ah w xo xs) (hxl:xs.length<=4611686018427387904) (he:ah w ao es) (hl:es.length<=4194304):
 Calls prog 96 #[.slice xo xs.length xc,.slice ao es.length cap] w fun e w'=>∃v,e= .returned (.tuple #[v,.bool (decide ((Ck.aP xs es 0).length=xs.length))])/\av w' w.heap.size v (Ck.keep xs es)/\Below w.heap.size w w':=by
 obtain⟨i0,hi,hz0,hz1,hz2⟩:=info_parts Tryz.ck;obtain⟨m,hm⟩:∃m,xs.length=m:=⟨_,rfl⟩;obtain⟨n,hn⟩:∃n,es.length=n:=⟨_,rfl⟩;have HX:=ζ hx;have HE:=ζ he;have HM:=ζ hm;have HN:=ζ hn;rw[hm] at hxl;rw[hn] at hl;rw[hm,hn];clear hx he hm hn;have hmk:∀(c:Nat) (W:World),c<=4194304->(Instr.makeSlice 55 (.int .i64 0) (.int .i64 (c:Int))).run prog W= .ok (.slice (some ⟨W.heap.size,0,none⟩) 0 c) (W.alloc (.cells (madeCells #[.int .i64 0] c) 3)):=fun c W hc=>by
  have:=run_make (P:=prog) W 55 3 i0 (.int .i64 0) Tryz.underlying55 hi hz0 .i64 .i64 0 (c:Int) (by omega) (by omega) (by rw[hz2];omega) (by omega);rw[this,hz1];simp[Value.cells]
 have xL:∀c:Nat,c<=4194304->Hid (av (w.alloc (.cells (madeCells #[.int .i64 0] c) 3)) w.heap.size (.slice (some ⟨w.heap.size,0,none⟩) 0 c) []):=fun c hc=>World.ownsRow_made w _ c (aaD _) (by unfold maxLen;omega) (by rw[size_madeCells];omega)
 have Vv:∀c:Nat,Hid (Below w.heap.size w (w.alloc (.cells (madeCells #[.int .i64 0] c) 3))):=fun c=>(aaE _ _).alloc (aaD _) _
 have CL:=ζ xL;have P5:=ζ Vv;clear xL Vv;rcases abk n m with hmn|hmn
 .have h1:min (m:Int) (n:Int)=(n:Int):=by omega
  have h2:(n:Int)<(m:Int):=by omega
  have h3:(n:Int)<=(m:Int):=by omega
  have h4:¬((m:Int)<=(n:Int)):=by omega
  have hm:=hmk n w (by omega);have Iq:=CL.out n (by omega);have aN:=P5.out n;clear CL P5 hmk;go_enter func96,ntmps96;go_wp2;clear hm h1 h2 h3 h4 hmn;go_loopw [6,17] (fun v c wr=>∃(k:Nat) (L:List Nat),k<=n/\c= .int .i64 k/\Ck.aP xs es 0=L++Ck.aP (xs.drop L.length) (es.drop k) k/\L.length<=m/\L.length<=k/\av wr w.heap.size v (L.map fun (k:Nat)=>(k:Int))/\Below w.heap.size w wr) (fun _ c _=>n-(intOf c).toNat)
  case atStart=>exact⟨0,[],aaL _,rfl,rfl,aaL _,aaL _,Iq.out,aN.out⟩
  case round=>
   obtain⟨k,L,hk,rfl,hL,Sw,G2,hrow,hb⟩:=hrel;obtain⟨j,hj⟩:∃j,L.length=j:=⟨_,rfl⟩;obtain⟨vo,vc,rfl,-,-⟩:=hrow.form;have bM:Hid (wr.ownsRow w.heap.size 3 1 (.slice vo j vc) j ((L.map fun (k:Nat)=>(k:Int)).map (Value.int .i64))):=by
    have h:=hrow;unfold av at h;rw[aaP,hj] at h;exact h
   have HB:=ζ hb;have HJ:=ζ hj;rw[hj] at hL Sw G2;have HL:=ζ hL;have hs0:w.heap.size<=wr.heap.size:=hb.size;rw[aaP,hj];by_cases hlt:k<n
   .have aX:(k:Int)<(n:Int):=by omega
    have hk0:(0:Int)<=(k:Int):=by omega
    obtain⟨p,hp⟩:∃p,es[k]? =some p:=⟨_,aaC (by have:=HN.out;omega)⟩;obtain⟨b,o,rfl,c0,c1⟩:=(HE.out.later hb) k p hp;have hbl:b<wr.heap.size:=block_lt_of_cell c0;have HP:=ζ hp;obtain⟨p1,p2⟩:=p;dsimp only at c0 c1;by_cases Pg:j<m
    .have MR:(j:Int)<(m:Int):=by omega
     have hj0:(0:Int)<=(j:Int):=by omega
     obtain⟨x,hx⟩:∃x,xs[j]? =some x:=⟨_,aaC (by have:=HM.out;omega)⟩;obtain⟨b',o',rfl,d0,d1⟩:=(HX.out.later hb) j x hx;have M7:b'<wr.heap.size:=block_lt_of_cell d0;have NK:=ζ hx;obtain⟨x1,x2⟩:=x;dsimp only at d0 d1;clear hrow hb hL hp hx hj;by_cases hpx:(x1,x2)=(p1,p2)
     .have gQ:(x1==p1&&x2==p2)=true:=by cases hpx;simp
      have Ir:=ζ hpx;clear hpx;go_wp2_with fail;have tj:=lY;go_quiet (fail);clear tj;have aC:=ζ (below_drewN (HB.out.alloc hs0 (.cells #[.int .i64 p1,.int .i64 p2] 66)) nq);have bH:Hid (((wr.alloc (.cells #[.int .i64 p1,.int .i64 p2] 66)).drewN nq).ownsRow w.heap.size 3 1 (.slice vo j vc) j ((L.map fun (k:Nat)=>(k:Int)).map (Value.int .i64))):=bM.out.alloc _;generalize (wr.alloc (.cells #[.int .i64 p1,.int .i64 p2] 66)).drewN nq=w2 at aC bH ⊢;have hs2:w.heap.size<=w2.heap.size:=aC.out.size;go_wp2_with (at_builtin;refine wpList_append_own _ rfl _ _ 55 rfl w.heap.size 3 i0 (.int .i64 0) 1 8 Tryz.underlying55 hi hz0 hz1 hz2 rfl (by decide) _ _ _ rfl (abe bH.out _) ⟨w2.heap.size,0,none⟩ 1 1 [.int .i64 (k:Int)] rfl rfl (cell_one_new _ _ _) (by simp[Value.oneCell']) (by unfold maxLen;omega) (by omega) (by simp;omega) ?_;refine aaH ?_);refine ζ ?_;intro v3 w3 hrow3 hg3 _;have mq:Hid (av w3 w.heap.size v3 ((L++[k]).map fun (k:Nat)=>(k:Int))):=by
       show w3.ownsRow _ _ _ _ _ _;rw[abh,abh,aaN,aaP,HJ.out,acI];exact hrow3
      have aK:=ζ ((aC.out.alloc hs2 (.cells #[.int .i64 (k:Int)] 3)).grown hg3 (by simp;omega) (fun b hb=>(aaJ bH.out b hb).1));clear hrow3 hg3;go_wp2;go_roundw
      case rel=>
       have fY:(L++[k]).length=j+1:=by rw[aaN,HJ.out];rfl
       have hst:=Ck.Ai HL.out (Ir.out▸NK.out) HP.out;refine⟨k+1,L++[k],by omega,by go_num,?_,by omega,by omega,mq.out,aK.out⟩;rw[fY];exact hst
      case measure=>simp[intOf];omega
     .have gQ:(x1==p1&&x2==p2)=false:=by
       by_cases e1:x1=p1
       .have:x2≠p2:=fun e2=>hpx (by rw[e1,e2])
        simp[this]
       .simp[e1]
      have Ir:=ζ hpx;clear hpx;go_wp2_with fail;have tj:=lY;go_quiet (fail);clear tj;have aC:=ζ (below_drewN (HB.out.alloc hs0 (.cells #[.int .i64 p1,.int .i64 p2] 66)) nq);have bH:Hid (av ((wr.alloc (.cells #[.int .i64 p1,.int .i64 p2] 66)).drewN nq) w.heap.size (.slice vo j vc) (L.map fun (k:Nat)=>(k:Int))):=by
       unfold av;rw[aaP,HJ.out];exact bM.out.alloc _
      go_wp2;go_roundw
      case rel=>
       refine⟨k+1,L,by omega,by go_num,?_,by rw[HJ.out];omega,by rw[HJ.out];omega,bH.out,aC.out⟩;rw[HJ.out];exact Ck.C9 HL.out NK.out HP.out Ir.out
      case measure=>simp[intOf];omega
    .have U6:¬((j:Int)<(m:Int)):=by omega
     clear hrow hb hL hp hj;go_wp2_with fail;go_quiet (fail);have aC:=ζ (below_drewN (HB.out.alloc hs0 (.cells #[.int .i64 p1,.int .i64 p2] 66)) nq);have bH:Hid (av ((wr.alloc (.cells #[.int .i64 p1,.int .i64 p2] 66)).drewN nq) w.heap.size (.slice vo j vc) (L.map fun (k:Nat)=>(k:Int))):=by
      unfold av;rw[aaP,HJ.out];exact bM.out.alloc _
     go_wp2;go_roundw
     case rel=>
      refine⟨k+1,L,by omega,by go_num,?_,by rw[HJ.out];omega,by rw[HJ.out];omega,bH.out,aC.out⟩;rw[HJ.out];exact Ck.wq HL.out (by have:=HM.out;omega)
     case measure=>simp[intOf];omega
   .have hd:¬((k:Int)<(n:Int)):=by omega
    have hend:=Ck.step_end hL (by have:=HN.out;omega);have xQ:av wr w.heap.size (.slice vo j vc) (Ck.keep xs es):=by
     unfold Ck.keep av;rw[hend,aaP,hj];exact bM.out
    have xW:decide ((Ck.aP xs es 0).length=xs.length)=((j:Int)==(m:Int)):=by
     rw[hend,hj,HM.out,abO,decide_eq_true_iff,beq_iff_eq];omega
    have jD:=ζ xQ;have IB:Hid (((j:Int)==(m:Int))=decide ((Ck.aP xs es 0).length=xs.length)):=xW.symm;clear hrow hb hL hj hend xQ xW;go_wp2;refine bodyPost_ret (v:= .tuple #[.slice vo j vc,.bool ((j:Int)==(m:Int))]) (by simp[results,results96,go_sem]) rfl ?_;exact⟨_,by rw[IB.out,HM.out],jD.out,HB.out⟩
 .have h1:min (m:Int) (n:Int)=(m:Int):=by omega
  have h2:¬((n:Int)<(m:Int)):=by omega
  have h3:(m:Int)<=(n:Int):=by omega
  have h4:True:=trivial;have hm:=hmk m w (by omega);have Iq:=CL.out m (by omega);have aN:=P5.out m;clear CL P5 hmk;go_enter func96,ntmps96;go_wp2;clear hm h1 h2 h3 h4 hmn;go_loopw [6,17] (fun v c wr=>∃(k:Nat) (L:List Nat),k<=n/\c= .int .i64 k/\Ck.aP xs es 0=L++Ck.aP (xs.drop L.length) (es.drop k) k/\L.length<=m/\L.length<=k/\av wr w.heap.size v (L.map fun (k:Nat)=>(k:Int))/\Below w.heap.size w wr) (fun _ c _=>n-(intOf c).toNat)
  case atStart=>exact⟨0,[],aaL _,rfl,rfl,aaL _,aaL _,Iq.out,aN.out⟩
  case round=>
   obtain⟨k,L,hk,rfl,hL,Sw,G2,hrow,hb⟩:=hrel;obtain⟨j,hj⟩:∃j,L.length=j:=⟨_,rfl⟩;obtain⟨vo,vc,rfl,-,-⟩:=hrow.form;have bM:Hid (wr.ownsRow w.heap.size 3 1 (.slice vo j vc) j ((L.map fun (k:Nat)=>(k:Int)).map (Value.int .i64))):=by
    have h:=hrow;unfold av at h;rw[aaP,hj] at h;exact h
   have HB:=ζ hb;have HJ:=ζ hj;rw[hj] at hL Sw G2;have HL:=ζ hL;have hs0:w.heap.size<=wr.heap.size:=hb.size;rw[aaP,hj];by_cases hlt:k<n
   .have aX:(k:Int)<(n:Int):=by omega
    have hk0:(0:Int)<=(k:Int):=by omega
    obtain⟨p,hp⟩:∃p,es[k]? =some p:=⟨_,aaC (by have:=HN.out;omega)⟩;obtain⟨b,o,rfl,c0,c1⟩:=(HE.out.later hb) k p hp;have hbl:b<wr.heap.size:=block_lt_of_cell c0;have HP:=ζ hp;obtain⟨p1,p2⟩:=p;dsimp only at c0 c1;by_cases Pg:j<m
    .have MR:(j:Int)<(m:Int):=by omega
     have hj0:(0:Int)<=(j:Int):=by omega
     obtain⟨x,hx⟩:∃x,xs[j]? =some x:=⟨_,aaC (by have:=HM.out;omega)⟩;obtain⟨b',o',rfl,d0,d1⟩:=(HX.out.later hb) j x hx;have M7:b'<wr.heap.size:=block_lt_of_cell d0;have NK:=ζ hx;obtain⟨x1,x2⟩:=x;dsimp only at d0 d1;clear hrow hb hL hp hx hj;by_cases hpx:(x1,x2)=(p1,p2)
     .have gQ:(x1==p1&&x2==p2)=true:=by cases hpx;simp
      have Ir:=ζ hpx;clear hpx;go_wp2_with fail;have tj:=lY;go_quiet (fail);clear tj;have aC:=ζ (below_drewN (HB.out.alloc hs0 (.cells #[.int .i64 p1,.int .i64 p2] 66)) nq);have bH:Hid (((wr.alloc (.cells #[.int .i64 p1,.int .i64 p2] 66)).drewN nq).ownsRow w.heap.size 3 1 (.slice vo j vc) j ((L.map fun (k:Nat)=>(k:Int)).map (Value.int .i64))):=bM.out.alloc _;generalize (wr.alloc (.cells #[.int .i64 p1,.int .i64 p2] 66)).drewN nq=w2 at aC bH ⊢;have hs2:w.heap.size<=w2.heap.size:=aC.out.size;go_wp2_with (at_builtin;refine wpList_append_own _ rfl _ _ 55 rfl w.heap.size 3 i0 (.int .i64 0) 1 8 Tryz.underlying55 hi hz0 hz1 hz2 rfl (by decide) _ _ _ rfl (abe bH.out _) ⟨w2.heap.size,0,none⟩ 1 1 [.int .i64 (k:Int)] rfl rfl (cell_one_new _ _ _) (by simp[Value.oneCell']) (by unfold maxLen;omega) (by omega) (by simp;omega) ?_;refine aaH ?_);refine ζ ?_;intro v3 w3 hrow3 hg3 _;have mq:Hid (av w3 w.heap.size v3 ((L++[k]).map fun (k:Nat)=>(k:Int))):=by
       show w3.ownsRow _ _ _ _ _ _;rw[abh,abh,aaN,aaP,HJ.out,acI];exact hrow3
      have aK:=ζ ((aC.out.alloc hs2 (.cells #[.int .i64 (k:Int)] 3)).grown hg3 (by simp;omega) (fun b hb=>(aaJ bH.out b hb).1));clear hrow3 hg3;go_wp2;go_roundw
      case rel=>
       have fY:(L++[k]).length=j+1:=by rw[aaN,HJ.out];rfl
       have hst:=Ck.Ai HL.out (Ir.out▸NK.out) HP.out;refine⟨k+1,L++[k],by omega,by go_num,?_,by omega,by omega,mq.out,aK.out⟩;rw[fY];exact hst
      case measure=>simp[intOf];omega
     .have gQ:(x1==p1&&x2==p2)=false:=by
       by_cases e1:x1=p1
       .have:x2≠p2:=fun e2=>hpx (by rw[e1,e2])
        simp[this]
       .simp[e1]
      have Ir:=ζ hpx;clear hpx;go_wp2_with fail;have tj:=lY;go_quiet (fail);clear tj;have aC:=ζ (below_drewN (HB.out.alloc hs0 (.cells #[.int .i64 p1,.int .i64 p2] 66)) nq);have bH:Hid (av ((wr.alloc (.cells #[.int .i64 p1,.int .i64 p2] 66)).drewN nq) w.heap.size (.slice vo j vc) (L.map fun (k:Nat)=>(k:Int))):=by
       unfold av;rw[aaP,HJ.out];exact bM.out.alloc _
      go_wp2;go_roundw
      case rel=>
       refine⟨k+1,L,by omega,by go_num,?_,by rw[HJ.out];omega,by rw[HJ.out];omega,bH.out,aC.out⟩;rw[HJ.out];exact Ck.C9 HL.out NK.out HP.out Ir.out
      case measure=>simp[intOf];omega
    .have U6:¬((j:Int)<(m:Int)):=by omega
     clear hrow hb hL hp hj;go_wp2_with fail;go_quiet (fail);have aC:=ζ (below_drewN (HB.out.alloc hs0 (.cells #[.int .i64 p1,.int .i64 p2] 66)) nq);have bH:Hid (av ((wr.alloc (.cells #[.int .i64 p1,.int .i64 p2] 66)).drewN nq) w.heap.size (.slice vo j vc) (L.map fun (k:Nat)=>(k:Int))):=by
      unfold av;rw[aaP,HJ.out];exact bM.out.alloc _
     go_wp2;go_roundw
     case rel=>
      refine⟨k+1,L,by omega,by go_num,?_,by rw[HJ.out];omega,by rw[HJ.out];omega,bH.out,aC.out⟩;rw[HJ.out];exact Ck.wq HL.out (by have:=HM.out;omega)
     case measure=>simp[intOf];omega
   .have hd:¬((k:Int)<(n:Int)):=by omega
    have hend:=Ck.step_end hL (by have:=HN.out;omega);have xQ:av wr w.heap.size (.slice vo j vc) (Ck.keep xs es):=by
     unfold Ck.keep av;rw[hend,aaP,hj];exact bM.out
    have xW:decide ((Ck.aP xs es 0).length=xs.length)=((j:Int)==(m:Int)):=by
     rw[hend,hj,HM.out,abO,decide_eq_true_iff,beq_iff_eq];omega
    have jD:=ζ xQ;have IB:Hid (((j:Int)==(m:Int))=decide ((Ck.aP xs es 0).length=xs.length)):=xW.symm;clear hrow hb hL hj hend xQ xW;go_wp2;refine bodyPost_ret (v:= .tuple #[.slice vo j vc,.bool ((j:Int)==(m:Int))]) (by simp[results,results96,go_sem]) rfl ?_;exact⟨_,by rw[IB.out,HM.out],jD.out,HB.out⟩
end
section
open Go.Proofs.Tryz
open Go.RowKit Go.Sort
def AX (f:FuncId):Value:= .func (.func f) #[] #[]
def Cm (b:Bool):List Value:=
 [.int .i64 1,AX 50,.int .i64 181,AX 51]++
 (if b then [.int .i64 182,AX 52,.int .i64 183,AX 53]
 else [.int .i64 184,AX 54,.int .i64 185,AX 55])
def P8 (b:Bool) (w:World) (e:Ending) (w':World):Prop:=
 ∃g c,e= .returned (.slice (some ⟨g,0,none⟩) 4 c)/\w.heap.size<=g/\(∀j u,(Cm b)[j]? =some u->w'.cell? ⟨g,j,none⟩=some u)/\Below w.heap.size w w'
theorem uG {w:World} {g:Nat} {xs:List Value} {ys:Array Value} {t:TypeId} {fr:Nat×Nat} (h:w.heap[g]? =some (.cells (xs.toArray++ys) t fr)):∀j u,xs[j]? =some u->w.cell? ⟨g,j,none⟩=some u:=fun j u hj=>by
 have hl:=(aaF.1 hj).1;have e:(xs.toArray++ys)[j]? =some u:=by
  rw[acV (by simpa using hl)];simpa using hj
 simp[World.cell?,h,e]
theorem AZ {X:World} {A B Z:Array Value} {g:Nat} {t:TypeId} {fr:Nat×Nat} {xs:List Value} (hx:X.heap[g]? =some (.cells (A++(B++Z)) t fr)) (hd:A.toList++B.toList=xs):X.heap[g]? =some (.cells (xs.toArray++Z) t fr):=by
 rw[hx,<-Array.append_assoc]
 congr 3
 apply Array.ext';simpa using hd
theorem pN (w:World) (a b c:Obj):(((w.alloc a).alloc b).alloc c).drew.heap[w.heap.size+1+1]? =some c:=by
 have h:=heap_alloc_new ((w.alloc a).alloc b) c;rw[aa1,aa1] at h;exact h
theorem nB (b:Bool) (w:World):Calls prog 29 #[.bool b] w (P8 b w):=by
 cases b with
 |true=>
  go_enter func29,ntmps29;go_wp2;go_ret;exact⟨_,_,rfl,by omega,uG (AZ (xs:=Cm true) (pN _ _ _ _) rfl),((((aaE _ _).alloc (aaD _) _).alloc (by simp) _).alloc (by simp;omega) _).drew⟩
 |false=>
  go_enter func29,ntmps29;go_wp2;go_ret;exact⟨_,_,rfl,by omega,uG (AZ (xs:=Cm false) (pN _ _ _ _) rfl),((((aaE _ _).alloc (aaD _) _).alloc (by simp) _).alloc (by simp;omega) _).drew⟩
end
section
open Go.RowKit
theorem Tryz.rj:(Tryz.prog.info? 55).map (fun i=>(i.zero,i.size,i.bytes))=some (some (.slice none 0 0),1,24):=by kernel_rfl
theorem sx {W:World} {base:Nat} {e:TypeId} {size:Nat} {v:Value} {k:Nat} {xs:List Value} (h:W.ownsRow base e size v (k+1) xs):∃g cap,v= .slice (some ⟨g,0,none⟩) (k+1) cap:=by
 rcases h.2 with ⟨_,h0⟩|⟨g,cap,_,rfl,_⟩
 .omega
 .exact⟨g,cap,rfl⟩
structure ay (w:World) (B:Nat) (v:Value) (vs:List Value) (ls:List (List Int)):Prop where
 len:vs.length=ls.length
 outer:w.ownsRow B 55 1 v ls.length vs
 row:∀(u:Nat) (x:Value) (l:List Int),vs[u]? =some x->ls[u]? =some l->av w B x l
 apart:∀(u u':Nat) (x x':Value) (b:Nat),u≠u'->vs[u]? =some x->vs[u']? =some x'->x.ownBlock=some b->x'.ownBlock≠some b
 far:∀(u:Nat) (x:Value) (b:Nat),vs[u]? =some x->x.ownBlock=some b->v.ownBlock≠some b
section
variable {w w':World} {B:Nat} {v:Value} {vs:List Value} {ls:List (List Int)}
theorem ay.at (h:ay w B v vs ls) {u:Nat} {x:Value} (hx:vs[u]? =some x):∃l,ls[u]? =some l:=⟨_,aaC (by rw[<-h.len];exact(aaF.1 hx).1)⟩
theorem ay.at' (h:ay w B v vs ls) {u:Nat} {l:List Int} (hl:ls[u]? =some l):∃x,vs[u]? =some x:=⟨_,aaC (by rw[h.len];exact(aaF.1 hl).1)⟩
theorem bN {e:TypeId} {s n:Nat} {xs:List Value} (h:w.ownsRow B e s v n xs) (hb:∀g,v.ownBlock=some g->B<=g->g<w.heap.size->w'.heap[g]? =w.heap[g]?):w'.ownsRow B e s v n xs:=by
 refine⟨h.1,?_⟩;rcases h.2 with h|⟨g,cap,cur,e1,hgB,hh,hr⟩
 .exact .inl h
 .exact .inr ⟨g,cap,cur,e1,hgB,(hb g (by rw[e1];rfl) hgB (lt_of_block hh)).trans hh,hr⟩
theorem ay.same (h:ay w B v vs ls) (hb:∀g,B<=g->g<w.heap.size->w'.heap[g]? =w.heap[g]?):ay w' B v vs ls:=
 ⟨h.len,bN h.outer fun g _ h1 h2=>hb g h1 h2,fun u x l hx hl=>bN (h.row u x l hx hl) fun g _ h1 h2=>hb g h1 h2,h.apart,h.far⟩
theorem ay.later (h:ay w B v vs ls) (hb:Below w.heap.size w w'):ay w' B v vs ls:=h.same fun g _ hg=>hb.block g hg
theorem ay.nil (w:World) (B:Nat):ay w B (.slice none 0 0) [] []:=⟨rfl,abX _ _ _ _,fun u x l hx=>by simp at hx,fun u u' x x' b _ hx=>by simp at hx,fun u x b hx=>by simp at hx⟩
theorem ay.lower {B':Nat} (h:ay w B v vs ls) (hB:B'<=B):ay w B' v vs ls:=by
 refine⟨h.len,⟨h.outer.1,?_⟩,fun u x l hx hl=>(h.row u x l hx hl).lower hB,h.apart,h.far⟩;rcases h.outer.2 with h|⟨g,cap,cur,e1,hgB,hr⟩
 .exact .inl h
 .exact .inr ⟨g,cap,cur,e1,aaM hB hgB,hr⟩
theorem ay.grow {W w1:World} {x v':Value} {l:List Int} (h:ay W B v vs ls) (hx:av W B x l) (hx1:∀(u:Nat) (y:Value) (b:Nat),vs[u]? =some y->y.ownBlock=some b->x.ownBlock≠some b) (hx2:∀b,v.ownBlock=some b->x.ownBlock≠some b)
 {tmp:Obj} (hown:w1.ownsRow B 55 1 v' (ls.length+1) (vs++[x])) (hgrow:(W.alloc tmp).grownBy w1 v.ownBlock) (hat:v'.ownBlock=v.ownBlock\/v'.ownBlock=some (W.heap.size+1)):
 ay w1 B v' (vs++[x]) (ls++[l]):=by
 have hsame:∀g,v.ownBlock≠some g->g<W.heap.size->w1.heap[g]? =W.heap[g]? :=fun g hne hg=>by
  rw[hgrow.block g (by rw[aa1];omega) (fun e=>hne e.symm)];exact aaO W tmp g hg
 have hold:∀u y k,vs[u]? =some y->ls[u]? =some k->av w1 B y k:=fun u y k hy hk=>(h.row u y k hy hk).same fun g hg hl=>hsame g (h.far u y g hy hg) hl
 have uZ:av w1 B x l:=hx.same fun g hg hl=>hsame g (fun e=>hx2 g e hg) hl
 have hlt:∀y k b,av W B y k->y.ownBlock=some b->b<W.heap.size:=fun y k b ho hb=>(aaJ ho b hb).2
 have fk:∀u y,(vs++[x])[u]? =some y->(u<vs.length/\vs[u]? =some y)\/(u=vs.length/\y=x):=fun u y hy=>by
  by_cases hu:u<vs.length
  .rw[aaU hu] at hy
   exact .inl ⟨hu,hy⟩
  .rw[aa4 (by omega)] at hy
   have hl:=(aaF.1 hy).1;have e:u-vs.length=0:=by simp at hl;omega
   rw[e] at hy;exact .inr ⟨by omega,(aaQ hy).symm⟩
 refine⟨by simp[h.len],by rw[aaN];exact hown,fun u y k hy hk=> ?_,fun u u' y y' b hne hy hy' hb=> ?_,fun u y b hy hb=> ?_⟩
 .rcases fk u y hy with ⟨hu,h1⟩|⟨hu,rfl⟩
  .rw[aaU (by rw[<-h.len];exact hu)] at hk
   exact hold u y k h1 hk
  .rw[hu,h.len,aa4 (aaD _),Nat.sub_self] at hk
   obtain rfl:=aaQ hk;exact uZ
 .rcases fk u y hy with ⟨hu,h1⟩|⟨hu,rfl⟩<;>rcases fk u' y' hy' with ⟨zC,h2⟩|⟨zC,rfl⟩
  .exact h.apart u u' y y' b hne h1 h2 hb
  .exact hx1 u y b h1 hb
  .intro hc
   exact hx1 u' y' b h2 hc hb
  .omega
 .intro hc
  rcases hat with e|e
  .rw[e] at hc
   rcases fk u y hy with ⟨hu,h1⟩|⟨hu,rfl⟩
   .exact h.far u y b h1 hb hc
   .exact hx2 b hc hb
  .rw[e] at hc
   have fZ:=aaQ hc;rcases fk u y hy with ⟨hu,h1⟩|⟨hu,rfl⟩
   .obtain⟨k,hk⟩:=h.at h1
    have:=hlt y k b (h.row u y k h1 hk) hb;omega
   .have:=hlt y l b hx hb
    omega
end
end
section
open Go.RowKit Go.Sort
theorem eG {ops:Array Oper} {rest:List Oper} {o:Oper} {a:Act} {Q:Exit->Act->World->Prop} (hgd:o.guard=none) (s x:Operand)
 (ho:o.op= .call { callee:= .builtin .append,args:= #[s,x],argTypes:= #[55,55] }) (W:World) (B:Nat) (v:Value) (l:List Int) (z:Int) (hown:av W B v l)
 (hB:B<=W.heap.size) (hl:l.length<=17592186044000) (hs:a.eval s=v) (hx:a.eval x= .slice (some ⟨W.heap.size,0,none⟩) 1 1)
 (h:∀v' w',av w' B v' (l++[z])->(W.alloc (.cells #[.int .i64 z] 3)).grownBy w' v.ownBlock->(v'.ownBlock=v.ownBlock\/v'.ownBlock=some (W.heap.size+1))->Below B W w'->wpList Tryz.prog ops Q rest (a.put o.dst v') w'):
 wpList Tryz.prog ops Q (o::rest) a (W.alloc (.cells #[.int .i64 z] 3)):=by
 obtain⟨i0,hi,hz0,hz1,hz2⟩:=info_parts Tryz.ck;have hb0:Below B W (W.alloc (.cells #[.int .i64 z] 3)):=(aaE _ _).alloc hB _;refine wpList_append_own_at _ hgd s x 55 ho B 3 i0 (.int .i64 0) 1 8 Tryz.underlying55 hi hz0 hz1 hz2 rfl (by decide) _ _ _ hs (abe hown _) ⟨W.heap.size,0,none⟩ 1 1 [.int .i64 z] hx rfl (cell_one_new _ _ _) (by simp[Value.oneCell']) (by unfold maxLen;omega) (by omega) (by simp;omega) ?_;intro v' w' hown' hg _ hat;have ho':av w' B v' (l++[z]):=by
  unfold av;rw[aaN,abh];exact hown'
 have Yh:∀b,v.ownBlock=some b->B<=b:=fun b hb=>(aaJ hown b hb).1
 refine h v' w' ho' hg (by simpa using hat) (hb0.grown hg (by simp;omega) Yh)
end
section
namespace Ce
open Nu
section
variable {B:Nat->Int} {n:Nat}
def Up (last:Int×Int):List (Int×Int)->Prop
 |[]=>True
 |p::es=>(fN p.1/\fN p.2/\p.1<p.2)/\(last.1<p.1\/(last.1=p.1/\last.2<p.2))/\Up p es
end
end Ce
end
section
open Go.RowKit
namespace Ce
def gW (w:World) (ao:Option Addr) (ls:List (List Int)):Prop:=∀(k:Nat) (l:List Int),ls[k]? =some l->∃b o xa xc,ao=some ⟨b,o,none⟩/\w.cell? ⟨b,o+k,none⟩=some (.slice xa l.length xc)/\aZ w xa l
theorem gW.later {w w':World} {ao:Option Addr} {ls:List (List Int)} (h:gW w ao ls) (hb:Below w.heap.size w w'):gW w' ao ls:=fun k l hl=>by
 obtain⟨b,o,xa,xc,e,hc,hs⟩:=h k l hl;exact⟨b,o,xa,xc,e,(hb.cell (p:=⟨b,o+k,none⟩) (block_lt_of_cell hc)).trans hc,hs.later hb⟩
def I1 (ls:List (List Int)):Prop:=(∀l∈ls,LS l)/\ls.length<=1048576
def Ax (es:List (Int×Int)):Prop:=J7 es/\es.length<=4194304
def Says (e:Ending) (p:Prop):Prop:=∃t,e= .returned (.bool t)/\(t=true↔p)
theorem Says.yes {p:Prop} (h:p):Says (.returned (.bool true)) p:=⟨true,rfl,iff_of_true rfl h⟩
theorem Says.no {p:Prop} (h:¬p):Says (.returned (.bool false)) p:=⟨false,rfl,iff_of_false Bool.false_ne_true h⟩
end Ce
end
section
open Go.RowKit
def Ce.II (w:World) (B:Nat) (v:Value) (L:List UInt8):Prop:=w.ownsRow B 5 1 v L.length (Lib.byteCells L)
theorem Ce.II.nil (w:World) (B:Nat):Ce.II w B (.slice none 0 0) []:=⟨rfl,.inl ⟨rfl,rfl⟩⟩
theorem Ce.zv (L:List UInt8):Lib.strCells ⟨L.toArray⟩=Lib.byteCells L:=by simp[Lib.strCells,Lib.byteCells]
theorem Ce.Nx (L S:List UInt8):Lib.byteCells L++Lib.byteCells S=Lib.byteCells (L++S):=by simp[Lib.byteCells]
theorem vS {ops:Array Oper} {rest:List Oper} {o:Oper} {a:Act} {Q:Exit->Act->World->Prop} (hgd:o.guard=none) (sl x:Operand)
 (ho:o.op= .call { callee:= .builtin .append,args:= #[sl,x],argTypes:= #[35,9] }) (w:World) (B:Nat) (v:Value) (L S:List UInt8) (hs:a.eval sl=v) (hx:a.eval x= .string ⟨S.toArray⟩) (hown:Ce.II w B v L)
 (hl:L.length+S.length<=140737488355328) (hB:B<=w.heap.size)
 (h:∀v' w',Ce.II w' B v' (L++S)->w.grownBy w' v.ownBlock->wpList Tryz.prog ops Q rest (a.put o.dst v') w'):wpList Tryz.prog ops Q (o::rest) a w:=by
 obtain⟨i0,hi,hz0,hz1,hz2⟩:=info_parts (show(Tryz.prog.info? 5).map (fun i=>(i.zero,i.size,i.bytes))=some (some (.int .u8 0),1,1) by kernel_rfl);have hsz:(⟨S.toArray⟩:ByteArray).size=S.length:=by simp[ByteArray.size]
 refine Lib.wpList_append_own_string (P:=Tryz.prog) w hgd sl x 35 9 ho B 5 i0 Tryz.underlying35 Tryz.underlying9 hi hz0 hz1 hz2 v L.length _ hs hown ⟨S.toArray⟩ hx (by rw[hsz];unfold maxLen;omega) (by rw[hsz];exact hl) hB ?_;intro v' w' h1 h2 _;refine h v' w' ?_ h2;unfold Ce.II;rw[hsz,Ce.zv,Ce.Nx] at h1;rw[aaN];exact h1
end
end Go.Proofs.YtdbjpbjocmcpkaaGreatDoor
