import Derived.Test.YtdbjpbjocmcpkaaGreatDoorMg02
import Derived.Lib.AppendStr
import Derived.Lib.ConvBytes
import Derived.Laws.Externs
import Derived.Lib.UnsafeStr
import Derived.Lib.Builder
import Derived.Outline
import Derived.Deep.RegionWith
set_option maxHeartbeats 2000000
set_option maxRecDepth 100000
namespace Go.Proofs.YtdbjpbjocmcpkaaGreatDoor
section
open Go.Proofs.Tryz
open Go.RowKit
def Ce.vh (w:World) (B:Nat) (v:Value) (L:List UInt8):Prop:=w.ownsRow B 5 1 v L.length (Lib.byteCells L)
theorem Ce.vh.nil (w:World) (B:Nat):Ce.vh w B (.slice none 0 0) []:=⟨rfl,.inl ⟨rfl,rfl⟩⟩
theorem Ce.Df (L:List UInt8):Lib.strCells ⟨L.toArray⟩=Lib.byteCells L:=by simp[Lib.strCells,Lib.byteCells]
theorem Ce.Ko (L S:List UInt8):Lib.byteCells L++Lib.byteCells S=Lib.byteCells (L++S):=by simp[Lib.byteCells]
theorem dz {ops:Array Oper} {rest:List Oper} {o:Oper} {a:Act} {Q:Exit->Act->World->Prop} (hgd:o.guard=none) (sl x:Operand)
 (ho:o.op= .call { callee:= .builtin .append,args:= #[sl,x],argTypes:= #[35,9] }) (w:World) (B:Nat) (v:Value) (L S:List UInt8) (hs:a.eval sl=v) (hx:a.eval x= .string ⟨S.toArray⟩) (hown:Ce.vh w B v L)
 (hl:L.length+S.length<=140737488355328) (hB:B<=w.heap.size)
 (h:∀v' w',Ce.vh w' B v' (L++S)->w.grownBy w' v.ownBlock->wpList prog ops Q rest (a.put o.dst v') w'):wpList prog ops Q (o::rest) a w:=by
 obtain⟨i0,hi,hz0,hz1,hz2⟩:=info_parts (show(prog.info? 5).map (fun i=>(i.zero,i.size,i.bytes))=some (some (.int .u8 0),1,1) by kernel_rfl);have hsz:(⟨S.toArray⟩:ByteArray).size=S.length:=by simp[ByteArray.size]
 refine Lib.wpList_append_own_string (P:=prog) w hgd sl x 35 9 ho B 5 i0 Tryz.underlying35 Tryz.underlying9 hi hz0 hz1 hz2 v L.length _ hs hown ⟨S.toArray⟩ hx (by rw[hsz];unfold maxLen;omega) (by rw[hsz];exact hl) hB ?_;intro v' w' h1 h2 _;refine h v' w' ?_ h2;unfold Ce.vh;rw[hsz,Ce.Df,Ce.Ko] at h1;rw[aar];exact h1
theorem cB {ops:Array Oper} {rest:List Oper} {o:Oper} {a:Act} {Q:Exit->Act->World->Prop} (hgd:o.guard=none) (sl x:Operand)
 (ho:o.op= .call { callee:= .builtin .append,args:= #[sl,x],argTypes:= #[35,35] }) (W:World) (B:Nat) (v:Value) (L S:List UInt8) (hown:Ce.vh W B v L) (hB:B<=W.heap.size)
 (hl:L.length+S.length<=140737488355328) (hs:a.eval sl=v) (tmp:Obj) (aav:tmp= .cells (Lib.byteCells S).toArray 5) (hx:a.eval x= .slice (some ⟨W.heap.size,0,none⟩) S.length S.length)
 (h:∀v' w',Ce.vh w' B v' (L++S)->(W.alloc tmp).grownBy w' v.ownBlock->wpList prog ops Q rest (a.put o.dst v') w'):wpList prog ops Q (o::rest) a (W.alloc tmp):=by
 subst aav;obtain⟨i0,hi,hz0,hz1,hz2⟩:=info_parts (show(prog.info? 5).map (fun i=>(i.zero,i.size,i.bytes))=some (some (.int .u8 0),1,1) by kernel_rfl);have hbl:(Lib.byteCells S).length=S.length:=by simp[Lib.byteCells]
 have hcells:∀(j:Nat) (u:Value),(Lib.byteCells S)[j]? =some u->(W.alloc (.cells (Lib.byteCells S).toArray 5)).cell? ((⟨W.heap.size,0,none⟩:Addr).add j)=some u:=by
  intro j u hj;exact adB (heap_alloc_new W (.cells (Lib.byteCells S).toArray 5)) j u (by simpa using hj)
 have hall:∀u∈Lib.byteCells S,u.oneCell'=true:=by
  intro u hu;simp only[Lib.byteCells,abP] at hu;obtain⟨c,_,rfl⟩:=hu;rfl
 refine wpList_append_own_at _ hgd sl x 35 ho B 5 i0 (.int .u8 0) 1 1 Tryz.underlying35 hi hz0 hz1 hz2 rfl (by decide) _ _ _ hs (abH hown _) ⟨W.heap.size,0,none⟩ S.length S.length (Lib.byteCells S) hx (by simpa using hbl) ?_ ?_ (by unfold maxLen;omega) (by omega) (by simp;omega) ?_
 .exact hcells
 .exact hall
 intro v' w' hown' hg _ _;refine h v' w' ?_ hg;unfold Ce.vh;rw[Ce.Ko] at hown';rw[aar];exact hown'
end
section
open Go.Proofs.Tryz
open Go.RowKit
def nj (w:World) (B b:Nat) (p:Value) (L:List UInt8) (t:Bool):Prop:=
 B<=b/\∃v,w.heap[b]? =some (.cells #[p,v,.bool t] 146 (0,0))/\Ce.vh w B v L/\v.ownBlock≠some b
def cR (w:World) (B b:Nat) (L:List UInt8) (t:Bool):Prop:=nj w B b (.pointer none) L t\/nj w B b (.pointer (some ⟨b,0,none⟩)) L t
section
variable {w w':World} {B b:Nat} {p:Value} {L:List UInt8} {t:Bool}
theorem nj.lt (h:nj w B b p L t):b<w.heap.size:=by
 obtain⟨_,v,hb,_⟩:=h;exact lt_of_block hb
theorem nj.later (h:nj w B b p L t) (hb:Below w.heap.size w w'):nj w' B b p L t:=by
 obtain⟨h0,v,h1,h2,h3⟩:=h;exact⟨h0,v,(hb.block _ (lt_of_block h1)).trans h1,bV h2 fun g _ _ h=>hb.block g h,h3⟩
theorem nj.used (h:nj w B b p L t) (q:Value):nj (w.setCell ⟨b,0,none⟩ q) B b q L t:=by
 obtain⟨h0,v,h1,h2,h3⟩:=h;refine⟨h0,v,?_,?_,h3⟩
 .rw[heap_setCell_same w b 0 _ _ _ h1];simp
 .exact bV h2 fun g hg _ _=>heap_setCell_other _ ⟨b,0,none⟩ g _ (by dsimp only;intro e;exact h3 (by rw[hg,e]))
theorem cR.later (h:cR w B b L t) (hb:Below w.heap.size w w'):cR w' B b L t:=h.imp (·.later hb) (·.later hb)
theorem cR.some (h:cR w B b L t):∃p,nj w B b p L t:=h.elim (fun h=>⟨_,h⟩) (fun h=>⟨_,h⟩)
theorem nj.cells (h:nj w B b p L t):∃vo vc,w.cell? ⟨b,0,none⟩=Option.some p/\w.cell? ⟨b,1,none⟩=Option.some (.slice vo L.length vc)/\w.cell? ⟨b,2,none⟩=Option.some (.bool t)/\(∀i,w.frozen? ⟨b,i,none⟩=false)/\w.shape? b=Option.some (146,3):=by
 obtain⟨h0,v,h1,h2,h3⟩:=h;have hv:∃vo vc,v= .slice vo L.length vc:=by
  rcases h2.2 with ⟨rfl,h⟩|⟨g,cap,cur,rfl,-⟩
  .exact⟨none,0,by rw[h]⟩
  .exact⟨_,_,rfl⟩
 obtain⟨vo,vc,rfl⟩:=hv;exact⟨vo,vc,by simp[World.cell?,h1],by simp[World.cell?,h1],by simp[World.cell?,h1],fun i=>by simp[World.frozen?,h1],by simp[World.shape?,h1]⟩
theorem nj.new (w:World) (hB:B<=w.heap.size):cR (w.alloc (.cells #[.pointer none,.slice none 0 0,.bool false] 146)) B w.heap.size [] false:=
 .inl ⟨hB,_,heap_alloc_new w _,Ce.vh.nil _ _,by simp[Value.ownBlock]⟩
theorem nj.vu (h:nj w B b p L t):nj (w.setCell ⟨b,2,none⟩ (.bool true)) B b p L true:=by
 obtain⟨h0,v,h1,h2,h3⟩:=h;refine⟨h0,v,?_,?_,h3⟩
 .rw[heap_setCell_same w b 2 _ _ _ h1];simp
 .exact bV h2 fun g hg _ _=>heap_setCell_other _ ⟨b,2,none⟩ g _ (by dsimp only;intro e;exact h3 (by rw[hg,e]))
end
theorem wB (b:Nat) (w:World) (h0:w.cell? ⟨b,0,none⟩=some (.pointer (some ⟨b,0,none⟩))):
 Calls prog 172 #[.pointer (some ⟨b,0,none⟩)] w fun e w'=>e= .returned (.tuple #[])/\w'=w:=by
 obtain⟨j,hj,_⟩:=abA.1 (show(prog.info? 144).map (·.size)=some 2 by kernel_rfl);go_enter func172,ntmps172;go_wp2;rw[Lib.run_neq_ptr_same w _ Tryz.underlying142 hj];go_wp2
 go_end0
 exact⟨rfl,rfl⟩
theorem uG (b:Nat) (w:World) (h0:w.cell? ⟨b,0,none⟩=some (.pointer none)) (hsh:w.shape? b=some (146,3)) (hfz:w.frozen? ⟨b,0,none⟩=false):
 Calls prog 172 #[.pointer (some ⟨b,0,none⟩)] w fun e w'=>e= .returned (.tuple #[])/\w'=w.setCell ⟨b,0,none⟩ (.pointer (some ⟨b,0,none⟩)):=by
 obtain⟨j,hj,hjs⟩:=abA.1 (show(prog.info? 144).map (·.size)=some 2 by kernel_rfl);have hj0:j.size≠0:=by rw[hjs];decide
 go_enter func172,ntmps172;go_wp2;rw[Lib.run_to_unsafe w ⟨b,0,none⟩ Tryz.underlying142 Tryz.underlying333 hj hj0 hsh (Nat.zero_lt_succ 2)];simp only[Result.andThen];rw[aeF];go_wp2;rw[run_callFunc_extern func232 (by kernel_rfl) (by kernel_rfl) (by kernel_rfl) (e:=Extern.AbiNoEscape.same) (by kernel_rfl)];rw[Lib.run_noEscape];simp only[Result.andThen];rw[aeF];go_wp2;rw[Lib.run_from_unsafe w ⟨b,0,none⟩ Tryz.underlying333 Tryz.underlying142 hj hsh (by kernel_rfl)];simp only[Result.andThen];rw[aeF];go_wp2
 go_end0
 exact⟨rfl,rfl⟩
theorem xQ {w:World} {B b:Nat} {L:List UInt8} {t:Bool} (h:cR w B b L t):
 Calls prog 172 #[.pointer (some ⟨b,0,none⟩)] w fun e w'=>e= .returned (.tuple #[])/\nj w' B b (.pointer (some ⟨b,0,none⟩)) L t/\Below B w w':=by
 rcases h with h|h
 .obtain⟨vo,vc,c0,c1,c2,fz,hsh⟩:=h.cells
  refine(uG b w c0 hsh (fz 0)).mono ?_;rintro e w' ⟨rfl,rfl⟩;exact⟨rfl,h.used _,(aae B w).setCell (p:=⟨b,0,none⟩) h.1 _⟩
 .obtain⟨vo,vc,c0,c1,c2,fz,hsh⟩:=h.cells
  refine(wB b w c0).mono ?_;rintro e w' ⟨rfl,rfl⟩;exact⟨rfl,h,aae B _⟩
theorem qh {w:World} {B b:Nat} {L:List UInt8} {t:Bool} (h:cR w B b L t):
 Calls prog 79 #[.pointer (some ⟨b,0,none⟩)] w fun e w'=>e= .returned (.int .i64 (L.length:Int))/\w'=w:=by
 obtain⟨p,h⟩:=h.some;obtain⟨vo,vc,c0,c1,-,fz,hsh⟩:=h.cells;clear h;go_enter func79,ntmps79;go_wp2;go_ret;exact⟨rfl,rfl⟩
theorem sW {w:World} {B b:Nat} {L S:List UInt8} {t:Bool} (h:cR w B b L t) (hB:B<=w.heap.size) (hl:L.length+S.length<=140737488355328):
 Calls prog 120 #[.pointer (some ⟨b,0,none⟩),.string ⟨S.toArray⟩] w fun e w'=>(∃v,e= .returned v)/\cR w' B b (L++S) t/\Below B w w':=by
 have HW:=ζ h;clear h;go_enter func120,ntmps120;go_wp2_with (go_at_call 172;refine(xQ HW.out).mono ?_;rintro e w1 ⟨rfl,h1,hb1⟩;refine aaj ?_);refine ζ ?_;obtain⟨h0,v,hh,UX,hne⟩:=h1;obtain⟨vo,vc,c0,c1,c2,fz,hsh⟩:=nj.cells ⟨h0,v,hh,UX,hne⟩;obtain rfl:v= .slice vo L.length vc:=by
  have:w1.cell? ⟨b,1,none⟩=some v:=by simp[World.cell?,hh]
  exact aaG (this.symm.trans c1)
 have hB1:B<=w1.heap.size:=aaD hB hb1.size;have aI:=ζ hb1;have sL:=ζ hne;clear hsh hb1 hne;go_wp2_with (at_builtin;refine dz rfl _ _ rfl w1 B (.slice vo L.length vc) L S rfl rfl UX hl hB1 ?_;refine aaj ?_);refine ζ ?_;intro v' w2 NM hg2;have dB:∀x,(Value.slice vo L.length vc).ownBlock=some x->B<=x:=fun x e=>(aap UX x e).1
 have Gp:=(hg2.block b (lt_of_block hh) (fun e=>sL.out e.symm)).trans hh;have hv':∃Qx Qy,v'= .slice Qx (L++S).length Qy:=by
  rcases NM.2 with ⟨rfl,h⟩|⟨g,cap,cur,rfl,-⟩
  .exact⟨none,0,by rw[h]⟩
  .exact⟨_,_,rfl⟩
 obtain⟨Qx,Qy,rfl⟩:=hv';obtain⟨d0,d1,d2,df⟩:=bw Gp;have RM:(Value.slice Qx (L++S).length Qy).ownBlock≠some b:=fun e=>by
  rcases NM.2 with ⟨h,-⟩|⟨g,cap,cur,h,-,hg,-⟩
  .rw[h] at e
   cases e
  .rw[h] at e
   obtain rfl:g=b:=by simpa[Value.ownBlock] using e
   rw[Gp] at hg;have:=congrArg (fun o=>match o with|some (Obj.cells _ t _)=>t|_=>146) hg;revert this;dsimp only;decide
 have HF:=ζ (show cR (w2.setCell ⟨b,1,none⟩ (.slice Qx (L++S).length Qy)) B b (L++S) t from .inr ⟨h0,_,by rw[heap_setCell_same w2 b 1 _ _ _ Gp];simp,bV NM fun g hg _ _=>heap_setCell_other _ ⟨b,1,none⟩ g _ (by dsimp only;intro e;exact RM (by rw[hg,e])),RM⟩);have HBF:=ζ (((aI.out.grown hg2 hB1 dB).setCell (p:=⟨b,1,none⟩) h0 (.slice Qx (L++S).length Qy)));clear NM hg2 dB RM hh Gp UX;rw[aar] at HF HBF;go_wp2;go_ret2;exact⟨⟨_,rfl⟩,HF.out,HBF.out⟩
theorem Am {w:World} {B b:Nat} {L:List UInt8} {t:Bool} (h:cR w B b L t) (h0:L≠[]):
 Calls prog 80 #[.pointer (some ⟨b,0,none⟩)] w fun e w'=>e= .returned (.string ⟨L.toArray⟩)/\Below B w w':=by
 obtain⟨p,hB,v,hbk,hown,hne⟩:=h.some;have hl0:L.length≠0:=by simpa using h0
 obtain⟨g,cap,cur,rfl,hbg,hg,hnc,hcm,hcs,XC⟩:∃g cap cur,v= .slice (some ⟨g,0,none⟩) L.length cap/\B<=g/\w.heap[g]? =some (.cells cur 5 (0,0))/\L.length<=cap/\cap<=maxLen/\cur.size=cap*1/\cur.toList.take (L.length*1)=Lib.byteCells L:=by
  rcases hown.2 with ⟨_,hz⟩|⟨g,cap,cur,hv,r⟩
  .exact absurd hz hl0
  .exact⟨g,cap,cur,hv,r⟩
 have c1:w.drew.cell? ⟨b,1,none⟩=some (.slice (some ⟨g,0,none⟩) L.length cap):=by
  have:w.drew.heap[b]? =some (.cells #[p,.slice (some ⟨g,0,none⟩) L.length cap,.bool t] 146 (0,0)):=hbk;simp[World.cell?,this]
 have hSD:(Builtin.unsafeSliceData_ #[35] 207 #[.slice (some ⟨g,0,none⟩) L.length cap]).run prog w.drew= .ok (.pointer (some ⟨g,0,none⟩)) w.drew:=
  Lib.run_unsafeSliceData_row _ _ _ _ _ _ (by omega)
 have hUS:(Builtin.unsafeString_ #[207,3] 9 #[.pointer (some ⟨g,0,none⟩),.int .i64 L.length]).run prog w.drew= .ok (.string ⟨L.toArray⟩) (w.drew.freeze ⟨g,0,none⟩ L.length):=by
  refine Lib.run_unsafeString_row w.drew 207 3 9 5 Tryz.underlying207 (by kernel_rfl) g cur.size (by have hg':w.drew.heap[g]? =some (.cells cur 5 (0,0)):=hg;simp[World.shape?,hg']) L h0 (by omega) (by unfold maxLen at hcm;omega) ?_;intro j x hx;have:=hown.cells (g:=g) rfl j (.int .u8 x.toNat) (by simp[Lib.byteCells,hx]);exact this
 clear h0 hown XC hcs hcm hnc hbk h hne;go_enter func80,ntmps80;go_wp2
 go_region
 all_goals (go_wp2;go_ret;exact⟨rfl,Lib.below_freeze (aec (aae B w)) (p:=⟨g,0,none⟩) hbg _⟩)
end
section
open Go.RowKit
namespace Ce
theorem Cl {A:Type} {l:List A} {k:Nat} {x:A} (h:l[k]? =some x):l.drop k=x::l.drop (k+1):=by
 obtain⟨hk,e⟩:=aah.1 h;rw[ac7 hk,e]
end Ce
namespace Ce
def jt (l:List Int):List UInt8:=l.flatMap fun x=>32::dg x
theorem xG (x:Int):∀r,jn (x::r)=dg x++jt r
 |[]=>by simp[jn,jt]
 |y::r=>by
  have ih:=xG y r;have e:jn (x::y::r)=dg x++32::jn (y::r):=rfl;rw[e,ih];simp[jt]
def rem (l:List Int) (j:Nat):List UInt8:=if j=0 then jn l else jt (l.drop j)
theorem Lp {l:List Int} {x:Int} (h:l[0]? =some x):rem l 0=dg x++rem l 1:=by
 cases l with
 |nil=>cases h
 |cons y r=>
  cases h;unfold rem;rw[if_pos rfl,xG,if_neg (by omega)];rfl
theorem OH {l:List Int} {x:Int} {j:Nat} (hj:0<j) (h:l[j]? =some x):rem l j=32::(dg x++rem l (j+1)):=by
 unfold rem;rw[if_neg (by omega),if_neg (by omega),Cl h];simp[jt]
theorem QK (l:List Int):rem l l.length=[]:=by
 unfold rem
 split
 .rename_i h
  rw[abM.1 h];rfl
 .simp[jt]
end Ce
def Qd (T:List UInt8) (e:Ending):Prop:=(33554432<T.length/\e= .returned (.tuple #[.string ⟨#[]⟩,.int .i64 10]))\/(T.length<=33554432/\e= .returned (.tuple #[.string ⟨T.toArray⟩,.int .i64 0]))
structure Ce.iD (w:World) (v:Value) (c:Ce.Cert) (ao eo:Option Addr) (ca ce:Nat):Prop where
 val:v= .agg #[.bool c.pl,.slice ao c.ar.length ca,.slice eo c.es.length ce]
 ar:Ce.fC w ao c.ar
 es:ah w eo c.es
theorem Ce.iD.later {w w':World} {v:Value} {c:Ce.Cert} {ao eo:Option Addr} {ca ce:Nat} (h:Ce.iD w v c ao eo ca ce) (hb:Below w.heap.size w w'):Ce.iD w' v c ao eo ca ce:=⟨h.val,h.ar.later hb,h.es.later hb⟩
structure Ce.Fits (c:Ce.Cert):Prop where
 ar:c.ar.length<=4611686018427387904
 es:c.es.length<=4611686018427387904
 row:∀l∈c.ar,l.length<=4611686018427387904
 txt:Ce.good c->(Ce.eA c).length<=70368744177664
def sr (c:Ce.Cert) (e:Ending):Prop:=(¬Ce.good c->e= .returned (.tuple #[.string ⟨#[]⟩,.int .i64 170]))/\(Ce.good c->Qd (Ce.eA c) e)
end
section
open Go.RowKit
namespace Ce
theorem Rg (x:Int):∀m:List Int,jn (m++[x])=if m=[] then dg x else jn m++32::dg x
 |[]=>rfl
 |y::r=>by
  rw[if_neg (by simp),abm,xG,xG];simp[jt]
theorem Bq {l:List Int} {z:Nat->Int} (hz:∀i x,l[i]? =some x->z i=x) (h0:∀x∈l,0<=x):∀k,k<=l.length->eK z k=jn (l.take k)
 |0,_=>rfl
 |k+1,hk=>by
  have ih:=Bq hz h0 k (by omega);have hx:l[k]? =some l[k]:=aac (by omega);have ht:l.take (k+1)=l.take k++[l[k]]:=by rw[ab5,hx];rfl
  rw[ht,Rg];show(if 0<k then eK z k++[32] else eK z k)++Lib.itoa (z k)=_;rw[hz k _ hx,Nu.I6 (h0 _ (aai hx)),ih];by_cases hk0:k=0
  .subst hk0
   rw[if_neg (by omega),if_pos (by simp)];rfl
  .have hne:l.take k≠[]:=fun e=>by
    have:=congrArg List.length e;rw[abu,abU] at this;omega
   rw[if_pos (by omega),if_neg hne];simp[dg]
theorem Uw (r:List Int):2*r.length<=(jt r).length:=by
 induction r with
 |nil=>simp[jt]
 |cons x r ih=>
  have:=J5 x;have e:jt (x::r)=32::dg x++jt r:=rfl;rw[e];simp;omega
theorem Q5 (l:List Int):2*l.length<=(bU l).length:=by
 unfold bU;cases l with
 |nil=>simp
 |cons x r=>
  have:=Uw r;have:=J5 x;rw[xG];simp;omega
theorem Xm (r:List Int) (h:∀x∈r,dH x):(jt r).length<=10*r.length:=by
 induction r with
 |nil=>simp[jt]
 |cons x r ih=>
  have:=kZ (h x (by simp));have:=ih (fun y hy=>h y (by simp[hy]));have e:jt (x::r)=32::dg x++jt r:=rfl;rw[e];simp;omega
theorem nP (l:List Int) (h:∀x∈l,dH x):(bU l).length<=10*l.length+1:=by
 unfold bU;cases l with
 |nil=>simp[jn]
 |cons x r=>
  have:=Xm r (fun y hy=>h y (by simp[hy]));have:=kZ (h x (by simp));rw[xG];simp;omega
end Ce
theorem FT {ao:Option Addr} {cap:Nat} {l:List Int} {w:World} (ha:aU w ao l) (hok:∀x∈l,Ce.dH x) (hl:l.length<=100000000) (ht:kO w):
 Calls Tryz.prog 39 #[.slice ao l.length cap] w fun e w'=>e= .returned (.string ⟨(Ce.bU l).toArray⟩)/\Below w.heap.size w w':=by
 have hz:∀i x,l[i]? =some x->(fun i=>l.getD i 0) i=x:=fun i x hx=>by simp[hx]
 have hI:q8 w ao l.length (fun i=>l.getD i 0):=fun i hi=>by
  have hx:l[i]? =some l[i]:=aac hi;obtain⟨b,o,e,hc⟩:=ha i _ hx;have:=hok _ (aai hx);have h0:=this.1;have h9:=this.2;rw[hz i _ hx];exact⟨⟨by omega,by omega⟩,b,o,e,hc⟩
 have h:=FY ao l.length cap _ w hI hl ht;rw[Ce.Bq hz (fun x hx=>(hok x hx).1) l.length (aad _),abW] at h;exact h
end
section
open Go.Proofs.Tryz
open Go.RowKit
theorem cR.vu {w:World} {B b:Nat} {L:List UInt8} {t:Bool} (h:cR w B b L t):cR (w.setCell ⟨b,2,none⟩ (.bool true)) B b L true:=h.imp (·.vu) (·.vu)
theorem cR.base {w:World} {B b:Nat} {L:List UInt8} {t:Bool} (h:cR w B b L t):B<=b/\b<w.heap.size:=by
 obtain⟨p,h⟩:=h.some;exact⟨h.1,h.lt⟩
theorem sZ {w:World} {B b:Nat} {L:List UInt8} {t:Bool} (h:cR w B b L t) {ao:Option Addr} {m c:Nat} (hm:m<=4611686018427387) (gD:t=true\/33554432<L.length+2*m) (hL:L.length<=70368744177664):
 Calls prog 78 #[.pointer (some ⟨b,0,none⟩),.slice ao m c] w fun e w'=>e= .returned (.tuple #[])/\cR w' B b L true/\Below B w w':=by
 obtain⟨p,h1⟩:=h.some;obtain⟨vo,vc,c0,c1,c2,fz,hsh⟩:=h1.cells;have DL:=h.base;have HW:=ζ h;have HF:=ζ h.vu;clear h1 hsh h;obtain⟨K,hK⟩:∃K,L.length=K:=⟨_,rfl⟩;have HLEN:Hid (∀_:Nat,Calls prog 79 #[.pointer (some ⟨b,0,none⟩)] w fun e w'=>e= .returned (.int .i64 (K:Int))/\w'=w):=fun _=>by rw[<-hK];exact qh HW.out
 rw[hK] at c1 gD hL;have hB:Below B w (w.setCell ⟨b,2,none⟩ (.bool true)):=(aae B w).setCell (p:=⟨b,2,none⟩) DL.1 _;cases t with
 |true=>
  clear gD;go_enter func78,ntmps78;go_wp2;refine bodyPost_ret (v:= .tuple #[]) (by simp[results,results78]) rfl ?_;exact⟨rfl,HF.out,hB⟩
 |false=>
  have hl2:(33554432:Int)<(K:Int)+2*(m:Int):=by
   rcases gD with h|h
   .cases h
   .omega
  clear gD;go_enter func78,ntmps78;go_wp2_with (go_at_call 79;refine(HLEN.out 0).mono ?_;rintro e w' ⟨rfl,rfl⟩);refine bodyPost_ret (v:= .tuple #[]) (by simp[results,results78]) rfl ?_;exact⟨rfl,HF.out,hB⟩
theorem sY {w:World} {B b:Nat} {L:List UInt8} (h:cR w B b L false) (hB:B<=w.heap.size) {ao:Option Addr} {c:Nat} {l:List Int} (ha:aU w ao l) (hok:∀x∈l,Ce.dH x) (ht:kO w) (hl:L.length+2*l.length<=33554432):
 Calls prog 78 #[.pointer (some ⟨b,0,none⟩),.slice ao l.length c] w fun e w'=>e= .returned (.tuple #[])/\cR w' B b (L++Ce.bU l) false/\Below B w w':=by
 obtain⟨p,h1⟩:=h.some;obtain⟨vo,vc,c0,c1,c2,fz,hsh⟩:=h1.cells;have DL:=h.base;have HW:=ζ h;have hhi:=Ce.nP l hok;have Ty:Hid (∀V,Below w.heap.size w V->Calls prog 39 #[.slice ao l.length c] V fun e w'=>e= .returned (.string ⟨(Ce.bU l).toArray⟩)/\Below V.heap.size V w'):=fun V hV=>FT (ha.later hV) hok (by omega) (aeb ht V hV)
 have j8:Hid (∀V,Below w.heap.size w V->Calls prog 120 #[.pointer (some ⟨b,0,none⟩),.string ⟨(Ce.bU l).toArray⟩] V fun e w'=>(∃v,e= .returned v)/\cR w' B b (L++Ce.bU l) false/\Below B V w'):=fun V hV=>sW (HW.out.later hV) (aaD hB hV.size) (by omega)
 have hbr:Below w.heap.size w w.drew:=(aae _ _).drew;obtain⟨S,hS⟩:∃S,Ce.bU l=S:=⟨_,rfl⟩;obtain⟨m,hm⟩:∃m,l.length=m:=⟨_,rfl⟩;obtain⟨K,hK⟩:∃K,L.length=K:=⟨_,rfl⟩;have HLEN:Hid (∀_:Nat,Calls prog 79 #[.pointer (some ⟨b,0,none⟩)] w fun e w'=>e= .returned (.int .i64 (K:Int))/\w'=w):=fun _=>by rw[<-hK];exact qh HW.out
 rw[hS,hm] at Ty;rw[hS] at j8 ⊢;rw[hm] at hl ⊢;rw[hK] at c1 hl;have hl2:¬((33554432:Int)<(K:Int)+2*(m:Int)):=by omega
 clear h1 hsh h hhi hm hK hS ha hok ht;go_enter func78,ntmps78;go_wp2_with (go_at_call 79;refine(HLEN.out 0).mono ?_;rintro e w' ⟨rfl,hw'⟩;obtain rfl:=hw'.symm;clear hw')
 go_region_held3 (fun V=>Below B w V)
  (first|assumption|exact hbr.mono hB)
  (first
    |(go_at_call 39;with_reducible refine(Ty.out _ (by first|assumption|exact hbr)).mono ?_;rintro e w3 ⟨rfl,hb3⟩;have hbz:Below w.heap.size w w3:=hbr.trans (hb3.mono hbr.size);have hbB:Below B w w3:=hbz.mono hB)
    |(go_at_call 120;with_reducible refine(j8.out _ (by assumption)).mono ?_;rintro e w4 ⟨⟨v4,rfl⟩,hw4,hb4⟩;have hbF:Below B w w4:=acI (by assumption) hb4))
 go_wp2
 go_end0
 exact⟨rfl,hw4,hbF⟩
theorem vn {w:World} {B b:Nat} (h:cR w B b [] false) (hB:B<=w.heap.size) {S:List UInt8} (hS:S.length<=2) {k:Int} (hk:Ce.dH k) (ht:∀W,Below B w W->kO W):
 Calls prog 77 #[.pointer (some ⟨b,0,none⟩),.string ⟨S.toArray⟩,.int .i64 k] w fun e w'=>e= .returned (.tuple #[])/\cR w' B b (S++Ce.bU [k]) false/\Below B w w':=by
 have DL:=h.base;have j8:=ζ (sW h hB (S:=S) (by simp;omega));have HT:=ζ ht;clear h ht;go_enter func77,ntmps77;go_wp2_with (go_at_call 120;refine j8.out.mono ?_;rintro e w1 ⟨⟨v1,rfl⟩,hw1,hb1⟩;refine aaj ?_);refine ζ ?_;rw[abi] at hw1;have hB1:B<=w1.heap.size:=aaD hB hb1.size;have ha1:Below w1.heap.size w1 (w1.alloc (.cells #[.int .i64 k] 3)):=(aae _ _).alloc (aad _) _;have hb2:=hb1.trans (ha1.mono hB1);have hI:aU (w1.alloc (.cells #[.int .i64 k] 3)) (some ⟨w1.heap.size,0,none⟩) [k]:=ak.at (l:=[k]) (heap_alloc_new w1 _);have HL:=ζ (sY (c:=1) (hw1.later ha1) (by simp;omega) hI (fun x hx=>by rw[abg.1 hx];exact hk) (HT.out _ hb2) (by simp;omega));have aB:=ζ hb2;clear j8 hw1 hb1 hb2 hI;go_wp2_with (go_at_call 78;refine HL.out.mono ?_;rintro e w3 ⟨rfl,hw3,hb3⟩)
 go_end0
 exact⟨rfl,hw3,aB.out.trans hb3⟩
end
section
open Go.Proofs.Tryz
open Go.RowKit
theorem CA (c:Int) (w:World):
 Calls prog 218 #[.int .u8 c] w fun e w'=>e= .returned (.bool (Nu.av c))/\w'=w:=by
 unfold Nu.av;by_cases h1:c=32
 .subst h1
  go_enter func218,ntmps218;go_wp2;go_ret;exact⟨rfl,rfl⟩
 .have e1:(c==32)=false:=by simp[h1]
  by_cases h2:c=9
  .subst h2
   go_enter func218,ntmps218;go_wp2;go_ret;exact⟨rfl,rfl⟩
  .have e2:(c==9)=false:=by simp[h2]
   rw[e1,e2];go_enter func218,ntmps218;go_wp2;go_ret;exact⟨by simp,rfl⟩
theorem lW (c:Int) (w:World):
 Calls prog 219 #[.int .u8 c] w fun e w'=>e= .returned (.bool (Nu.isDigit c))/\w'=w:=by
 unfold Nu.isDigit;by_cases h1:48<=c
 .have e1:decide (48<=c)=true:=by simp[h1]
  rw[e1];go_enter func219,ntmps219;go_wp2;go_ret;exact⟨by simp,rfl⟩
 .have e1:decide (48<=c)=false:=by simp[h1]
  rw[e1];go_enter func219,ntmps219;go_wp2;go_ret;exact⟨by simp,rfl⟩
end
section
open Go.Proofs.Tryz
open Go.RowKit
theorem Iq (b:Nat) (ao:Option Addr) (n cap p:Nat) (g:Nat->Int) (w:World) (hs:eG w b ao n cap p) (ht:aY w ao n g) (ha:Apart ao b) (hp:p<=n) (hn:n<=33554432):
 Calls prog 217 #[.pointer (some ⟨b,0,none⟩),.func (.func 219) #[] #[]] w fun e w'=>
  e= .returned (.tuple #[])/\∃q,Nu.dZ Nu.isDigit g n p q/\eG w' b ao n cap q/\w.grownBy w' (some b):=by
 go_enter func217,ntmps217;go_wp2;go_loopw [] (fun wr=>∃q:Nat,p<=q/\q<=n/\(∀i,p<=i->i<q->Nu.isDigit (g i)=true)/\eG wr b ao n cap q/\w.grownBy wr (some b)) (fun wr=>n-posOf wr b)
 case atStart=>exact⟨p,aad _,hp,fun i h1 h2=>by omega,hs,adf _ _⟩
 case round=>
  obtain⟨q,Jm,hq1,hall,pU,hgr⟩:=hrel;have c0:=pU.text;have c1:=pU.place;have fz:=pU.free 1;have HP:Hid (posOf wr b=q):=pU.pos;by_cases hlt:q<n
  .obtain⟨⟨b0,b1⟩,tb,to,rfl,hcr⟩:=(ht.grown hgr ha) q hlt
   have aQ:(q:Int)<(n:Int):=by omega
   have aaO:(0:Int)<=(q:Int):=by omega
   have ht':=ζ ht;have B5:=ζ hall;clear ht hall;cases hd:Nu.isDigit (g q)
   .go_wp2_with fail
    go_quiet ((go_at_call 219;exact abq (lW _ _)));go_wp2
    go_end0
    exact⟨rfl,q,⟨Jm,hq1,B5.out,fun _=>hd⟩,pU.drewN _,bW hgr _⟩
   .go_wp2_with fail
    go_quiet ((go_at_call 219;exact abq (lW _ _)));go_wp2;go_roundw
    case rel=>
     refine⟨q+1,by omega,by omega,fun i h1 h2=> ?_,?_,?_⟩
     .by_cases e:i=q
      .subst e;exact hd
      .exact B5.out i h1 (by omega)
     .exact(pU.drewN _).set (q+1)
     .exact grownBy_setCell (bW hgr _) 1 _
    case measure=>
     have e1:posOf ((wr.drewN nq).setCell ⟨b,1,none⟩ (.int .i64 ((q:Int)+1))) b=q+1:=((pU.drewN nq).set (q+1)).pos;have e2:posOf wr b=q:=HP.out;rw[e1,e2];omega
  .have hd:decide ((q:Int)<(n:Int))=false:=by simp;omega
   have Pn:q=n:=by omega
   have HQ:=ζ Pn;clear Pn;go_wp2_with fail;go_quiet (fail);go_wp2
   go_end0
   exact⟨rfl,q,⟨Jm,hq1,hall,fun h=>absurd h hlt⟩,pU.drewN _,bW hgr _⟩
theorem Ir (b:Nat) (ao:Option Addr) (n cap p:Nat) (g:Nat->Int) (w:World) (hs:eG w b ao n cap p) (ht:aY w ao n g) (ha:Apart ao b) (hp:p<=n) (hn:n<=33554432):
 Calls prog 217 #[.pointer (some ⟨b,0,none⟩),.func (.func 218) #[] #[]] w fun e w'=>
  e= .returned (.tuple #[])/\∃q,Nu.dZ Nu.av g n p q/\eG w' b ao n cap q/\w.grownBy w' (some b):=by
 go_enter func217,ntmps217;go_wp2;go_loopw [] (fun wr=>∃q:Nat,p<=q/\q<=n/\(∀i,p<=i->i<q->Nu.av (g i)=true)/\eG wr b ao n cap q/\w.grownBy wr (some b)) (fun wr=>n-posOf wr b)
 case atStart=>exact⟨p,aad _,hp,fun i h1 h2=>by omega,hs,adf _ _⟩
 case round=>
  obtain⟨q,Jm,hq1,hall,pU,hgr⟩:=hrel;have c0:=pU.text;have c1:=pU.place;have fz:=pU.free 1;have HP:Hid (posOf wr b=q):=pU.pos;by_cases hlt:q<n
  .obtain⟨⟨b0,b1⟩,tb,to,rfl,hcr⟩:=(ht.grown hgr ha) q hlt
   have aQ:(q:Int)<(n:Int):=by omega
   have aaO:(0:Int)<=(q:Int):=by omega
   have ht':=ζ ht;have B5:=ζ hall;clear ht hall;cases hd:Nu.av (g q)
   .go_wp2_with fail
    go_quiet ((go_at_call 218;exact abq (CA _ _)));go_wp2
    go_end0
    exact⟨rfl,q,⟨Jm,hq1,B5.out,fun _=>hd⟩,pU.drewN _,bW hgr _⟩
   .go_wp2_with fail
    go_quiet ((go_at_call 218;exact abq (CA _ _)));go_wp2;go_roundw
    case rel=>
     refine⟨q+1,by omega,by omega,fun i h1 h2=> ?_,?_,?_⟩
     .by_cases e:i=q
      .subst e;exact hd
      .exact B5.out i h1 (by omega)
     .exact(pU.drewN _).set (q+1)
     .exact grownBy_setCell (bW hgr _) 1 _
    case measure=>
     have e1:posOf ((wr.drewN nq).setCell ⟨b,1,none⟩ (.int .i64 ((q:Int)+1))) b=q+1:=((pU.drewN nq).set (q+1)).pos;have e2:posOf wr b=q:=HP.out;rw[e1,e2];omega
  .have hd:decide ((q:Int)<(n:Int))=false:=by simp;omega
   have Pn:q=n:=by omega
   have HQ:=ζ Pn;clear Pn;go_wp2_with fail;go_quiet (fail);go_wp2
   go_end0
   exact⟨rfl,q,⟨Jm,hq1,hall,fun h=>absurd h hlt⟩,pU.drewN _,bW hgr _⟩
end
section
open Go.RowKit
theorem Aw (ao:Option Addr) (n cap:Nat) (g:Nat->Int) (w:World) (ht:aY w ao n g) (hn:n<=9) (hd:∀i,i<n->48<=g i/\g i<=57):
 Calls Tryz.prog 264 #[.slice ao n cap] w fun e w'=>e= .returned (.int .i64 (Nu.val g 0 n))/\w'=w:=by
 go_enter Tryz.func264,Tryz.ntmps264;go_wp2
 go_loop [3,8] (fun v i=>∃k:Nat,k<=n/\i= .int .i64 k/\v= .int .i64 (Nu.val g 0 k)) (fun _ i=>n-(intOf i).toNat)
 case atStart=>exact⟨0,aax _,rfl,rfl⟩
 case round=>
  obtain⟨k,hk,rfl,rfl⟩:=hrel;have hb:=Nu.Eg g 0 k (by omega) (fun i hi=>by simpa using hd i (by omega));by_cases hlt:k<n
  .obtain⟨_,tb,to,rfl,hc⟩:=ht k hlt
   have hdk:=hd k hlt;have HS:=ζ (show Nu.val g 0 (k+1)=10*Nu.val g 0 k+(g k-48) by simp[Nu.val]);have HT:=ζ ht;have HD:=ζ hd;clear ht hd;obtain⟨V,hV⟩:∃V,V=Nu.val g 0 k:=⟨_,rfl⟩;rw[<-hV] at hb HS ⊢;have HV:=ζ hV;clear hV;obtain⟨C,hC⟩:∃C,C=g k:=⟨_,rfl⟩;rw[<-hC] at hdk hc HS;have HC:=ζ hC;clear hC;go_wp2;go_round
   case rel=>
    refine⟨k+1,by omega,by go_num,?_⟩;rw[HS.out]
   case measure=>simp[intOf];omega
  .go_wp2
   go_ret;have:k=n:=by omega
   subst this;exact⟨rfl,rfl⟩
end
section
open Go.Proofs.Tryz
open Go.RowKit
theorem Nu.tT (g:Nat->Int) (q:Nat):∀k,Nu.val (fun i=>g (q+i)) 0 k=Nu.val g q k
 |0=>rfl
 |k+1=>by simp[Nu.val,Nu.tT g q k]
theorem aY.cut {w:World} {tb to n:Nat} {g:Nat->Int} (h:aY w (some ⟨tb,to,none⟩) n g) {q r:Nat} (hr:r<=n) (_hq:q<=r):aY w (some ⟨tb,to+q,none⟩) (r-q) (fun i=>g (q+i)):=by
 intro i hi;obtain⟨hb,tb',to',e,hc⟩:=h (q+i) (by omega);simp only[Option.some.injEq,aeo] at e;obtain⟨rfl,rfl,_⟩:=e;exact⟨hb,tb,to+q,rfl,by rw[<-adx] at hc;exact hc⟩
theorem IA (b:Nat) (tb to n cap q:Nat) (g:Nat->Int) (w:World) (hs:eG w b (some ⟨tb,to,none⟩) n cap q) (ht:aY w (some ⟨tb,to,none⟩) n g) (ha:tb≠b) (hq:q<n) (hd:Nu.isDigit (g q)=true) (hn:n<=33554432) (hcap:n<=cap):
 Calls prog 220 #[.pointer (some ⟨b,0,none⟩)] w fun e w'=>
  ∃r,Nu.dZ Nu.isDigit g n q r/\eG w' b (some ⟨tb,to,none⟩) n cap r/\w.grownBy w' (some b)/\
   ((¬(9<r-q\/(1<r-q/\g q=48))/\e= .returned (.agg #[.int .i64 1,.int .i64 q,.int .i64 r,.int .i64 (Nu.val g q (r-q))]))\/
    ((9<r-q\/(1<r-q/\g q=48))/\e= .panicked [{ v:= .iface 179 (.agg #[.int .i64 q,.int .i64 12]),recovered:=false }])):=by
 have c0:=hs.text;have c1:=hs.place;have fP:=hs.lt;go_enter func220,ntmps220;go_wp2_with fail;refine(Iq b _ n cap q g _ (hs.alloc _) (ht.alloc _) (fun x hx=>by cases hx;exact ha) (by omega) hn).mono ?_;rintro e w1 ⟨rfl,r,hr,hs1,hg1⟩;have vV:=(ht.alloc _).grown hg1 (fun x hx=>by cases hx;exact ha);have hqr:q<r:=by
  rcases abX q r with h|h
  .exact h
  .have e:q=r:=aee hr.lo h
   subst e;rw[hr.stop hq] at hd;cases hd
 have XG:=hr.hi;have cell0:=(vV q hq).2;obtain⟨_,_,e,cq⟩:=cell0;cases e;have d0:=hs1.text;have d1:=hs1.place;have z0:w1.heap[w.heap.size]? =some (.cells #[.int .i64 0,.int .i64 0,.int .i64 0,.int .i64 0] 186 (0,0)):=by
  rw[hg1.block w.heap.size (by simp) (by simp;omega)];exact heap_alloc_new w _
 have HZ:=ζ z0;have HD:=ζ hd;have HT:=ζ ht;have zV:=ζ vV;clear z0 hd ht vV c0 c1;have i1:(q:Int)<=(r:Int):=by omega
 have i2:(r:Int)<=(cap:Int):=by omega
 have hg2:w.grownBy w1 (some b):=dD (acn w _ _) hg1;have cZ:=ζ hg2;have gL:=ζ hg1;have HR:=ζ hr;have uT:=ζ hs1;clear hg2 hg1 hr hs1;by_cases hA:9<r-q
 .have j1:(9:Int)<((r-q:Nat):Int):=by omega
  go_wp2_with fail;go_quiet (fail);go_wp2;exact⟨rfl,r,HR.out,uT.out.drewN _,bW cZ.out _,.inr ⟨.inl hA,rfl⟩⟩
 .have j1:((r-q:Nat):Int)<=9:=by omega
  have j1':decide ((9:Int)<((r-q:Nat):Int))=false:=by simp;omega
  by_cases hB:1<r-q
  .have j2:(1:Int)<((r-q:Nat):Int):=by omega
   by_cases hC:g q=48
   .have j3:(g q==48)=true:=by simp[hC]
    have HC:=ζ hC;clear hC;go_wp2_with fail;go_quiet (fail);go_wp2;exact⟨rfl,r,HR.out,uT.out.drewN _,bW cZ.out _,.inr ⟨.inr ⟨hB,HC.out⟩,rfl⟩⟩
   .have j3:(g q==48)=false:=by simp[hC]
    have HN:=ζ (show ¬(9<r-q\/(1<r-q/\g q=48)) from fun h=>h.elim hA fun h=>hC h.2);clear hC;go_wp2_with fail;go_quiet (fail);go_wp2_with fail;have vd:∀i,i<r-q->48<=g (q+i)/\g (q+i)<=57:=fun i hi=>by
     have:=HR.out.all (q+i) (by omega) (by omega);simpa[Nu.isDigit] using this
    have V:=fun (k:Nat)=>Aw (some ⟨tb,to+q,none⟩) (r-q) (cap-q) (fun i=>g (q+i)) (w1.drewN k) ((zV.out.drewN k).cut (by omega) (by omega)) (by omega) vd
    rw[Nu.tT] at V;have VH:=ζ V;clear V vd;have f0:∀i,w1.frozen? ⟨w.heap.size,i,none⟩=false:=fun i=>by simp[World.frozen?,HZ.out]
    have f1:∀i,i<4->w1.cell? ⟨w.heap.size,i,none⟩=some (.int .i64 0):=fun i hi=>by
     rcases(show i=0\/i=1\/i=2\/i=3 by omega) with rfl|rfl|rfl|rfl<;>simp[World.cell?,HZ.out]
    have g0:=f1 0 (by omega);have g1:=f1 1 (by omega);have g2:=f1 2 (by omega);have g3:=f1 3 (by omega)
    go_region_with (go_at_call 264;refine(VH.out _).mono ?_;rintro e w' ⟨rfl,rfl⟩)
    all_goals go_wp2
    all_goals
     refine bodyPost_ret (v:= .agg #[.int .i64 1,.int .i64 q,.int .i64 r,.int .i64 (Nu.val g q (r-q))]) (results_cell_row (p:=2) (ty:=186) results220 _ _ w.heap.size 186 _ (0,0) _ rfl (lD (w:=w1.drewN (nq+1)) HZ.out _ _ _ _) Tryz.underlying186 rfl (by kernel_rfl)) rfl ?_;exact⟨r,HR.out,(uT.out.drewN _).mz (by omega) _ _ _ _,gP (bW cZ.out _) (aad _) _ _ _ _,.inl ⟨HN.out,rfl⟩⟩
  .have j2:decide ((1:Int)<((r-q:Nat):Int))=false:=by simp;omega
   have HN:=ζ (show ¬(9<r-q\/(1<r-q/\g q=48)) from fun h=>h.elim hA fun h=>hB h.1);go_wp2_with fail;go_quiet (fail);go_wp2_with fail;have vd:∀i,i<r-q->48<=g (q+i)/\g (q+i)<=57:=fun i hi=>by
    have:=HR.out.all (q+i) (by omega) (by omega);simpa[Nu.isDigit] using this
   have V:=fun (k:Nat)=>Aw (some ⟨tb,to+q,none⟩) (r-q) (cap-q) (fun i=>g (q+i)) (w1.drewN k) ((zV.out.drewN k).cut (by omega) (by omega)) (by omega) vd
   rw[Nu.tT] at V;have VH:=ζ V;clear V vd;have f0:∀i,w1.frozen? ⟨w.heap.size,i,none⟩=false:=fun i=>by simp[World.frozen?,HZ.out]
   have f1:∀i,i<4->w1.cell? ⟨w.heap.size,i,none⟩=some (.int .i64 0):=fun i hi=>by
    rcases(show i=0\/i=1\/i=2\/i=3 by omega) with rfl|rfl|rfl|rfl<;>simp[World.cell?,HZ.out]
   have g0:=f1 0 (by omega);have g1:=f1 1 (by omega);have g2:=f1 2 (by omega);have g3:=f1 3 (by omega)
   go_region_with (go_at_call 264;refine(VH.out _).mono ?_;rintro e w' ⟨rfl,rfl⟩)
   all_goals go_wp2
   all_goals
    refine bodyPost_ret (v:= .agg #[.int .i64 1,.int .i64 q,.int .i64 r,.int .i64 (Nu.val g q (r-q))]) (results_cell_row (p:=2) (ty:=186) results220 _ _ w.heap.size 186 _ (0,0) _ rfl (lD (w:=w1.drewN (nq+1)) HZ.out _ _ _ _) Tryz.underlying186 rfl (by kernel_rfl)) rfl ?_;exact⟨r,HR.out,(uT.out.drewN _).mz (by omega) _ _ _ _,gP (bW cZ.out _) (aad _) _ _ _ _,.inl ⟨HN.out,rfl⟩⟩
end
section
open Go.Proofs.Tryz
open Go.RowKit
def Ei (t:Nu.Tok):Value:= .agg #[.int .i64 t.kind,.int .i64 t.at',.int .i64 t.fin,.int .i64 t.num]
def wu (x:Nat×Int):Value:= .iface 179 (.agg #[.int .i64 x.1,.int .i64 x.2])
def Qe (b:Nat) (ao:Option Addr) (n cap p:Nat) (g:Nat->Int) (w:World) (e:Ending) (w':World):Prop:=
 w.grownBy w' (some b)/\((∃t p',Nu.next g n p= .ok (t,p')/\e= .returned (Ei t)/\eG w' b ao n cap p')\/(∃x,Nu.next g n p= .error x/\e= .panicked [{ v:=wu x,recovered:=false }]))
theorem Mw (x0 x1 x2 x3:Value) (W:World):(Instr.field 186 (.agg #[x0,x1,x2,x3]) 0).run prog W= .ok x0 W:=by kernel_rfl
theorem oy {fn:Func} {p:Tmp} (h:fn.results= #[.cell p 186]) (tmps:Array Value) (W:World) (B:Nat) (x0 x1 x2 x3:Value)
 (hp:tmps.getD p undef= .pointer (some ⟨B,0,none⟩)) (hg:W.heap[B]? =some (.cells #[x0,x1,x2,x3] 186 (0,0))):
 (results fn tmps).run prog W= .ok (.agg #[x0,x1,x2,x3]) W:=
 results_cell_row (p:=p) (ty:=186) h tmps W B 186 _ (0,0) _ hp hg Tryz.underlying186 rfl (by kernel_rfl)
theorem EH (b:Nat) (ao:Option Addr) (n cap p:Nat) (g:Nat->Int) (w:World) (hs:eG w b ao n cap p) (ht:aY w ao n g) (ha:Apart ao b) (hp:p<=n) (hn:n<=33554432) (hcap:n<=cap):
 Calls prog 153 #[.pointer (some ⟨b,0,none⟩)] w (Qe b ao n cap p g w):=by
 have fP:=hs.lt;go_enter func153,ntmps153;go_wp2_with fail;refine(Ir b ao n cap p g _ (hs.alloc _) (ht.alloc _) ha hp hn).mono ?_;rintro e w1 ⟨rfl,q,hq,hs1,hg1⟩;have vV:=(ht.alloc _).grown hg1 ha;have z0:w1.heap[w.heap.size]? =some (.cells #[.int .i64 0,.int .i64 0,.int .i64 0,.int .i64 0] 186 (0,0)):=by
  rw[hg1.block w.heap.size (by simp) (by simp;omega)];exact heap_alloc_new w _
 have f0:∀i,w1.frozen? ⟨w.heap.size,i,none⟩=false:=fun i=>by simp[World.frozen?,z0]
 have g0:w1.cell? ⟨w.heap.size,0,none⟩=some (.int .i64 0):=by simp[World.cell?,z0]
 have g1:w1.cell? ⟨w.heap.size,1,none⟩=some (.int .i64 0):=by simp[World.cell?,z0]
 have g2:w1.cell? ⟨w.heap.size,2,none⟩=some (.int .i64 0):=by simp[World.cell?,z0]
 have g3:w1.cell? ⟨w.heap.size,3,none⟩=some (.int .i64 0):=by simp[World.cell?,z0]
 have d0:=hs1.text;have d1:=hs1.place;have fz:=hs1.free 1;have Pn:=hq.hi;have hg2:w.grownBy w1 (some b):=dD (acn w _ _) hg1;have cZ:=ζ hg2;have uT:=ζ hs1;have zV:=ζ vV;have HT:=ζ ht;have HZ:=ζ z0;have HQ:=ζ hq;clear hg2 hg1 hs1 vV ht z0 hq hs;by_cases hA:q=n
 .subst hA
  go_wp2_with fail;refine bodyPost_ret (v:=Ei ⟨3,q,q,0⟩) (oy (p:=2) results153 _ _ w.heap.size _ _ _ _ rfl (lD (w:=w1) HZ.out _ _ _ _)) rfl ?_;exact⟨gP cZ.out (aad _) _ _ _ _,.inl ⟨_,_,Nu.nK HQ.out,rfl,uT.out.mz (by omega) _ _ _ _⟩⟩
 .have hlt:q<n:=by omega
  have j0:((q:Int)==(n:Int))=false:=by simp;omega
  have j1:(q:Int)<(n:Int):=by omega
  obtain⟨⟨b0,b1⟩,tb,to,rfl,cq⟩:=zV.out q hlt;cases hd:Nu.isDigit (g q)
  .by_cases h10:g q=10
   .have j2:(g q==10)=true:=by simp[h10]
    have H10:=ζ h10;clear h10;go_wp2_with (go_at_call 219;refine(lW _ _).mono ?_;rintro e w' ⟨rfl,rfl⟩);have z3:=(heap_setCell_other w' ⟨b,1,none⟩ w.heap.size (.int .i64 ((q:Int)+1)) (by simp;omega)).trans HZ.out;refine bodyPost_ret (v:=Ei ⟨2,q,(q:Int)+1,0⟩) (oy (p:=2) results153 _ _ w.heap.size _ _ _ _ rfl (lD z3 _ _ _ _)) rfl ?_;exact⟨gP (grownBy_setCell cZ.out 1 _) (aad _) _ _ _ _,.inl ⟨_,_,Nu.lG HQ.out hlt H10.out,rfl,(uT.out.set (q+1)).mz (by omega) _ _ _ _⟩⟩
   .have j2:(g q==10)=false:=by simp[h10]
    go_wp2_with (go_at_call 219;refine(lW _ _).mono ?_;rintro e w' ⟨rfl,rfl⟩);exact⟨rfl,cZ.out,.inr ⟨(q,11),Nu.lI HQ.out hlt hd h10,rfl⟩⟩
  .go_wp2_with (first|(go_at_call 219;refine(lW _ _).mono ?_;rintro e w' ⟨rfl,rfl⟩)|(go_at_call 220;refine(IA b tb to n cap q g _ uT.out zV.out (fun h=>ha _ rfl h) hlt hd hn hcap).mono ?_;refine aaj ?_))
   refine ζ ?_;rintro e w2 ⟨r,hr,hs2,hg3,hx⟩;have z2:w2.heap[w.heap.size]? =some (.cells #[.int .i64 0,.int .i64 0,.int .i64 0,.int .i64 0] 186 (0,0)):=by
    rw[hg3.block w.heap.size (lt_of_block HZ.out) (by simp;omega)];exact HZ.out
   rcases hx with ⟨hb,rfl⟩|⟨hb,rfl⟩
   .have HR:=ζ hr
    have D6:=ζ hs2;have l7:=ζ (dD cZ.out hg3);have HB:=ζ hb;have HZ2:=ζ z2;clear g0 g1 g2 g3 f0 d0 d1 fz cq;have f0:∀i,w2.frozen? ⟨w.heap.size,i,none⟩=false:=fun i=>by simp[World.frozen?,z2]
    have g0:w2.cell? ⟨w.heap.size,0,none⟩=some (.int .i64 0):=by simp[World.cell?,z2]
    have g1:w2.cell? ⟨w.heap.size,1,none⟩=some (.int .i64 0):=by simp[World.cell?,z2]
    have g2:w2.cell? ⟨w.heap.size,2,none⟩=some (.int .i64 0):=by simp[World.cell?,z2]
    have g3:w2.cell? ⟨w.heap.size,3,none⟩=some (.int .i64 0):=by simp[World.cell?,z2]
    clear hr hs2 hg3 hb z2;go_wp2;refine bodyPost_ret (v:=Ei ⟨1,q,r,Nu.val g q (r-q)⟩) (oy (p:=2) results153 _ _ w.heap.size _ _ _ _ rfl (lD HZ2.out _ _ _ _)) rfl ?_;exact⟨gP l7.out (aad _) _ _ _ _,.inl ⟨_,_,Nu.nJ HQ.out hlt hd HR.out HB.out,rfl,D6.out.mz (by omega) _ _ _ _⟩⟩
   .exact⟨rfl,dD cZ.out hg3,.inr ⟨(q,12),Nu.nL HQ.out hlt hd hr hb,rfl⟩⟩
end
section
open Go.RowKit
def Nf (n:Nat) (g:Nat->Int) (w:World) (e:Ending) (w':World):Prop:=
 w.grownBy w' none/\((∃ts,Nu.scan g n= .ok ts/\e= .returned (.int .i64 ts.length))\/(∃x,Nu.scan g n= .error x/\e= .panicked [{ v:=wu x,recovered:=false }]))
theorem wo {w w1 w2:World} {b:Nat} (h:w.grownBy w1 none) (hb:w.heap.size<=b) (k:w1.grownBy w2 (some b)):w.grownBy w2 none:=
 ⟨k.os.trans h.os,k.tape.trans h.tape,k.output.trans h.output,aaD h.size k.size,fun i hi _=>(k.block i (aa5 hi h.size) (by simp;omega)).trans (h.block i hi (by simp))⟩
theorem J8 (ao:Option Addr) (n cap:Nat) (g:Nat->Int) (w:World) (ht:aY w ao n g) (ha:Apart ao w.heap.size) (hn:n<=33554432) (hcap:n<=cap):
 Calls Tryz.prog 107 #[.slice ao n cap] w (Nf n g w):=by
 have hft:=Mw;go_enter Tryz.func107,Tryz.ntmps107;go_wp2;go_loopw [4] (fun c wr=>∃(ts:List Nu.Tok) (p k:Nat),p<=n/\n-p<k/\ts.length<=p/\Nu.scan g n=Nu.pre ts (Nu.dh g n k p)/\c= .int .i64 (ts.length+1:Nat)/\eG wr w.heap.size ao n cap p/\w.grownBy wr none) (fun _ wr=>n-posOf wr w.heap.size)
 case atStart=>
  refine⟨[],0,n+1,aax _,by omega,aad _,(Nu.pre_nil _).symm,rfl,?_,acn _ _ _⟩;exact heap_alloc_new w _
 case round=>
  obtain⟨ts,p,k,hp,hk,hl,xI,rfl,hs,hg⟩:=hrel;obtain⟨k,rfl⟩:∃k',k=k'+1:=⟨k-1,by omega⟩;have KG:=ζ xI;have HT:=ζ ht;have acM:=ζ hs.pos;clear xI ht;go_wp2_with (go_at_call 153;refine(EH w.heap.size ao n cap p g _ hs (HT.out.Ae hg) ha hp hn hcap).mono ?_;refine aaj ?_);refine ζ ?_;rintro e w1 ⟨hg1,hx⟩;have HG:=ζ (wo hg (aad _) hg1);rcases hx with ⟨t,p',sH,rfl,hs1⟩|⟨x,sH,rfl⟩
  .have hm:=Nu.jT hp sH
   have hf:=Nu.Bd hp sH;have uT:=ζ hs1;have gS:=ζ sH;clear sH hs1 hg hg1 hs;unfold Ei;by_cases h3:t.kind=3
   .have j3:(t.kind != 3)=false:=by simp[h3]
    have H3:=ζ h3;clear h3;go_wp2;go_ret;refine⟨HG.out,.inl ⟨ts++[t],?_,by simp⟩⟩;rw[KG.out,Nu.jP k gS.out H3.out];rfl
   .have j3:(t.kind != 3)=true:=by simp[h3]
    have hp':=hm.2 h3;have H3:=ζ h3;clear h3;go_wp2;go_roundw
    case rel=>
     refine⟨ts++[t],p',k,hm.1,by omega,by simp;omega,?_,by simp,uT.out,HG.out⟩;rw[KG.out,Nu.jO k gS.out H3.out,Nu.QN]
    case measure=>
     have e1:=uT.out.pos;have e2:posOf wr w.heap.size=p:=acM.out;rw[e1,e2];omega
  .refine⟨rfl,HG.out,.inr ⟨x,?_,rfl⟩⟩
   rw[KG.out,Nu.iL k sH];rfl
end
end Go.Proofs.YtdbjpbjocmcpkaaGreatDoor
