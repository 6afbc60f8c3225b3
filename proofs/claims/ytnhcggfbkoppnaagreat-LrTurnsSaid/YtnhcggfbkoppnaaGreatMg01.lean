import Derived.Test.YtnhcggfbkoppnaaGreatMg00
import Derived.Test.YtnhcggfbkoppnaaGreatRows
import Derived.ProofKit
import Derived.OpenShut
import Derived.SizedLaws
import Derived.Deep.DeepHandedRow
import Derived.Lib.LaidTab
import Derived.Laws.AppendOwnNone
import Derived.BigRegion
import Derived.Lib.SliceRun
namespace Go.Proofs.YtnhcggfbkoppnaaGreat
section
open Go.RowKit Go.Sort
def TI (n:Int) (es:List (Int×Int)) (w:World) (e:Ending) (w':World):Prop:=
 ((Si.valid n es=true∧∃g m:Nat,n=(m:Int)∧e= .returned (.tuple #[.slice (some ⟨g,0,none⟩) m m,.int .i64 0])∧w.heap.size≤g∧aq w' g (Si.jt n es))∨(Si.valid n es=false∧e= .returned (.tuple #[.slice none 0 0,.int .i64 1])))∧Below w.heap.size w w'
theorem Si.vr {l:List Int} {u:Nat} {x:Int} (h:l[u]? =some x):Si.bump l (u:Int)=l.set u (x+1):=by
 unfold Si.bump
 rw[Int.toNat_natCast,List.getD_eq_getElem?_getD,h]
 rfl
set_option maxRecDepth 100000 in
set_option maxHeartbeats 8000000 in
theorem Fl (n:Int) (ao:Option Addr) (cap:Nat) (es:List (Int×Int)) (w:World) (he:aL w ao es) (hl:es.length≤4611686018427387904):
 Calls Tryz.prog 74 #[cK n ao es.length cap] w (TI n es w):=by
 obtain⟨i0,hi,hz0,hz1,hz2⟩:=info_parts Tryz.bS
 have HE:=Nu.hid he
 have ND:=fun W (hb:Below w.heap.size w W)=>Jb n ao cap es W (he.later hb) hl
 unfold cK at ND ⊢
 have Lg:=Nu.hid ND
 clear he ND
 have DL:Below w.heap.size w (w.alloc (.cells #[.int .i64 n,.slice ao es.length cap] 24)):=(Below.refl _ _).alloc (Nat.le_refl _) _
 have rF:=Nu.hid DL
 clear DL
 cases hv:Si.valid n es with
 |false=>
  rw[hv] at Lg
  have HV:=Nu.hid hv
  clear hv
  go_enter Tryz.func74,Tryz.ntmps74
  go_wp2_with (go_at_call 107;refine(Lg.out _ rF.out).mono ?_;rintro e w' ⟨rfl,hb⟩;refine Hid.out ?_)
  refine Nu.hid ?_
  have HB:=Nu.hid (rF.out.trans (hb.mono rF.out.size))
  clear hb
  go_wp2
  go_ret2
  exact⟨.inr ⟨HV.out,rfl⟩,HB.out⟩
 |true=>
  rw[hv] at Lg
  have hval:=Si.bL.1 hv
  have cq:=hval.few
  have hlo:=hval.lo
  have hhi:=hval.hi
  obtain⟨m,rfl⟩:∃m:Nat,n=(m:Int):=⟨n.toNat,by omega⟩
  have mV:=Nu.hid hval
  have HV:=Nu.hid hv
  clear hval hv
  go_enter Tryz.func74,Tryz.ntmps74
  go_wp2_with (go_at_call 107;refine(Lg.out _ rF.out).mono ?_;rintro e w' ⟨rfl,hb⟩;refine Hid.out ?_)
  refine Nu.hid ?_
  have hG:w'.heap[w.heap.size]? =some (.cells #[.int .i64 m,.slice ao es.length cap] 24 (0,0)):=(hb.block _ (by simp)).trans (heap_alloc_new w _)
  have HB:=Nu.hid (rF.out.trans (hb.mono rF.out.size))
  have P7:=lt_of_block hG
  obtain⟨g0,g1,-⟩:=az hG
  clear hb hG
  go_wp2_with (at_make;refine wpList_make_full _ rfl _ _ 27 rfl w'.heap.size 3 i0 (.int .i64 0) 1 Tryz.underlying27 hi hz0 hz1 _ _ _ _ m rfl rfl rfl rfl (by rw[hz2];omega) (by unfold maxLen;omega) (Nat.le_refl _) ?_;refine Hid.out ?_)
  refine Nu.hid ?_
  intro w2 hrow hg2
  rw[cD] at hrow
  have hik:=dy hrow
  have hb2:Below w'.heap.size w' w2:=(Below.refl _ _).grown hg2 (Nat.le_refl _) (fun j hj=>by cases hj)
  have cz:=Nu.hid (HB.out.trans (hb2.mono HB.out.size))
  have k1:=(hb2.cell (p:=⟨w.heap.size,1,none⟩) P7).trans g1
  have hs2:w'.heap.size<w2.heap.size:=hik.lt
  have Ti:Hid (aq w2 w'.heap.size (Si.jt m [])):=by
   show aq _ _ _
   have:Si.jt m []=List.replicate m 0:=by simp[Si.jt]
   rw[this]
   exact hik
  have hwg:w.heap.size≤w'.heap.size:=by omega
  have ajO:w.heap.size<w2.heap.size:=by omega
  clear hrow hg2 hb2 hik g0 g1
  go_wp2
  go_loopw [16] (fun c wr=>∃(k:Nat) (l:List Int),k≤es.length∧c= .int .i64 k∧l=Si.jt m (es.take k)∧aq wr w'.heap.size l∧Below w.heap.size w wr) (fun c _=>es.length-(intOf c).toNat)
  case atStart=>exact⟨0,_,Nat.zero_le _,rfl,by simp,Ti.out,cz.out⟩
  case round=>
   obtain⟨k,l,hk,rfl,hl0,hik,hb⟩:=hrel
   have hsw:=hik.lt
   have hs0:=hb.size
   have eH:l.length=m:=by rw[hl0,Si.pV];simp
   have eP:Si.BM (2*k) l:=by
    rw[hl0]
    have:=Si.KN m (es.take k)
    have e:(es.take k).length=k:=by simp;omega
    rw[e] at this
    exact this
   have afG:=Nu.hid hik
   have dM:=Nu.hid hb
   have OE:=Nu.hid hl0
   clear hl0
   by_cases hlt:k<es.length
   ·have oA:(k:Int)<(es.length:Int):=by omega
    have hk0:(0:Int)≤(k:Int):=by omega
    obtain⟨p,hp⟩:∃p,es[k]? =some p:=⟨_,List.getElem?_eq_getElem hlt⟩
    obtain⟨b,o,rfl,c0,c1⟩:=(HE.out.later hb) k p hp
    have hbl:b<wr.heap.size:=block_lt_of_cell c0
    have lV:Si.jt m (es.take (k+1))=Si.bump (Si.bump l p.1) p.2:=by rw[Si.zH hp,Si.Bo,←OE.out]
    have hok:=mV.out.each k p hp
    unfold Si.ok at hok
    obtain⟨pu,pv⟩:=p
    dsimp only at c0 c1 lV hok
    obtain⟨u,rfl⟩:∃u:Nat,pu=(u:Int):=⟨pu.toNat,by omega⟩
    obtain⟨v,rfl⟩:∃v:Nat,pv=(v:Int):=⟨pv.toNat,by omega⟩
    obtain⟨x,hx⟩:∃x,l[u]? =some x:=⟨_,List.getElem?_eq_getElem (by omega)⟩
    obtain⟨y,hy⟩:∃y,l[v]? =some y:=⟨_,List.getElem?_eq_getElem (by omega)⟩
    have hxb:=eP u x hx
    have hyb:=eP v y hy
    have hne:u≠v:=by omega
    have WC:Si.jt m (es.take (k+1))=(l.set u (x+1)).set v (y+1):=by
     rw[lV,Si.vr hx,Si.vr (x:=y) (by rw[List.getElem?_set,if_neg hne];exact hy)]
    have l7:=Nu.hid WC
    have hcx:=hik.cell hx
    have hcy:=hik.cell hy
    have hfr:=hik.free
    have hi1:=hik.set u (x+1)
    have aj2:=hi1.cell (i:=v) (x:=y) (by rw[List.getElem?_set,if_neg hne];exact hy)
    have aj0:=hi1.free
    have fY:=Nu.hid ((hi1.set v (y+1)).alloc (.cells #[.int .i64 u,.int .i64 v] 55))
    have u0:(0:Int)≤(u:Int):=by omega
    have v0:(0:Int)≤(v:Int):=by omega
    have um:(u:Int)<(m:Int):=by omega
    have vm:(v:Int)<(m:Int):=by omega
    clear lV WC eP hok hx hy hb hik hi1 hp
    go_wp2
    go_roundw
    case rel=>exact⟨k+1,_,by omega,by go_num,l7.out.symm,fY.out,((dM.out.setCell (by simp;omega) _).setCell (by simp;omega) _).alloc (by simp;omega) _⟩
    case measure=>simp[intOf];omega
   ·have hd:¬((k:Int)<(es.length:Int)):=by omega
    have hle:l=Si.jt m es:=by rw[OE.out,List.take_of_length_le (by omega)]
    have C7:=Nu.hid hle
    clear hle hb hik eP
    go_wp2
    go_ret2
    refine⟨.inl ⟨HV.out,w'.heap.size,m,rfl,rfl,hwg,?_⟩,dM.out⟩
    rw[←C7.out]
    exact afG.out
end
section
open Go.RowKit
theorem Cs.N3 {n:Nat} {es:List (Int×Int)} (hv:Si.Val n es):∀k,k≤es.length→∀v,v<n→(Si.jt n (es.take k))[v]? =some ((Cs.out es v (2*k)).length:Int):=by
 intro k
 induction k with
 |zero=>intro _ v hv;simp[Si.jt,Cs.out,hv]
 |succ k ih=>
  intro hk v dh
  obtain⟨q,hq⟩:∃q,es[k]? =some q:=⟨_,List.getElem?_eq_getElem (by omega)⟩
  have hok:=hv.each k q hq
  unfold Si.ok at hok
  obtain⟨qu,qv⟩:=q
  dsimp only at hok
  obtain⟨a,rfl⟩:∃u:Nat,qu=(u:Int):=⟨qu.toNat,by omega⟩
  obtain⟨b,rfl⟩:∃v:Nat,qv=(v:Int):=⟨qv.toNat,by omega⟩
  obtain⟨e1,-⟩:=Cs.iR hq
  obtain⟨e3,-⟩:=Cs.nw hq
  dsimp only[Int.toNat_natCast] at e1 e3
  have h1:=ih (by omega) a (by omega)
  have h2:=ih (by omega) b (by omega)
  rw[Si.zH hq,Si.Bo]
  have hne:a≠b:=by omega
  rw[Si.vr h1,Si.vr (x:=((Cs.out es b (2*k)).length:Int)) (by rw[List.getElem?_set,if_neg hne];exact h2)]
  have e:2*(k+1)=2*k+1+1:=by omega
  have hl:=Si.pV n (es.take k)
  rw[e,Cs.gG,Cs.gG,e1,e3,List.getElem?_set]
  by_cases hb:b=v
  ·subst hb
   rw[if_pos rfl,if_pos (by simp;omega),if_neg hne,if_pos rfl]
   congr 1
  ·rw[if_neg hb,if_neg hb,List.getElem?_set]
   by_cases ha:a=v
   ·subst ha
    rw[if_pos rfl,if_pos (by omega),if_pos rfl]
    congr 1
   ·rw[if_neg ha,if_neg ha,ih (by omega) v dh]
    rfl
end
section
open Go.ChangeShapes Go.WideShapes Go.ChangeAt Go.RowKit
theorem own:ownKnob Tryz.prog.godebug=none:=by kernel_rfl
theorem laidOut:laidOutB Tryz.prog=true:=by kernel_rfl
theorem D5:Tryz.prog.cellsOf 3=1:=by kernel_rfl
theorem D6:Tryz.prog.bytesOf 3=8:=by kernel_rfl
noncomputable def settled (os:Os):World:=World.holding Tryz.prog os ⟨#[],#[],[]⟩
def rq (k:IntKind) (bytes:Nat) (w:World) (a:Option Addr) (len cap:Nat) (zs:List Int):Prop:=
 (a=none∧len=0∧cap=0∧zs=[])∨
 ∃x,a=some x∧len≤cap∧cap*bytes≤140737488351232∧zs.length=cap∧(∀i,i<zs.length→w.cell? (x.add i)=some (.int k (zs.getD i 0)))∧∀n∈zs,(Lit.int k n).wf=true
theorem rq.take {k:IntKind} {bytes:Nat} {w:World} {a:Option Addr} {len cap:Nat} {zs:List Int} (h:rq k bytes w a len cap zs):(zs.take len).length=len:=by
 rcases h with ⟨_,rfl,_,rfl⟩|⟨_,_,hl,_,hz,_⟩
 ·rfl
 ·simp;omega
theorem rq.small {k:IntKind} {bytes:Nat} {w:World} {a:Option Addr} {len cap:Nat} {zs:List Int} (h:rq k bytes w a len cap zs):len*bytes≤140737488351232:=by
 rcases h with ⟨_,rfl,_,rfl⟩|⟨_,_,hl,hm,_⟩
 ·simp
 ·exact Nat.le_trans (Nat.mul_le_mul_right bytes hl) hm
theorem Ep {ops:Array Oper} {rest:List Oper} {o:Oper} {a:Act} {Q:Exit→Act→World→Prop} (hgd:o.guard=none) (s x:Operand) (t:TypeId)
 (ho:o.op= .call { callee:= .builtin .append,args:= #[s,x],argTypes:= #[t,t] }) (e:TypeId) (k:IntKind) (i0:TypeInfo) (bytes:Nat) (hu:Tryz.prog.underlying t=some (.slice e)) (hi:Tryz.prog.info? e=some i0)
 (hz0:i0.zero=some (.int k 0)) (hz1:i0.size=1) (hz2:i0.bytes=bytes) (hpos:0<bytes) (W:World) (ao:Option Addr) (len cap:Nat) (zs:List Int) (hs:a.eval s= .slice (some ⟨W.heap.size,0,none⟩) 0 0) (hx:a.eval x= .slice ao len cap)
 (hrow:rq k bytes W ao len cap zs)
 (h:∀gb c w',w'.ownsRow W.heap.size e 1 (.slice (some ⟨gb,0,none⟩) len c) len ((zs.take len).map (Value.int k))→W.heap.size≤gb→gb<w'.heap.size→len≤c→Below W.heap.size W w'→wpList Tryz.prog ops Q rest (a.put o.dst (.slice (some ⟨gb,0,none⟩) len c)) w'):
 wpList Tryz.prog ops Q (o::rest) a (W.alloc (.cells #[] e)):=by
 have gI:(W.alloc (.cells #[] e)).ownsRow W.heap.size e 1 (.slice (some ⟨W.heap.size,0,none⟩) 0 0) 0 []:=World.ownsRow_made W #[] 0 (Nat.le_refl _) (Nat.zero_le _) rfl
 have hb0:Below W.heap.size W (W.alloc (.cells #[] e)):=(Below.refl _ _).alloc (Nat.le_refl _) _
 have jZ:=hrow.take
 have hsm:=hrow.small
 rcases hrow with ⟨rfl,rfl,rfl,rfl⟩|⟨y,rfl,hl,hm,hz,hc,hw⟩
 ·refine wpList_append_own_none hgd s x t ho W.heap.size e i0 1 hu hi _ 0 [] hs gI hx ?_
  exact h _ _ _ gI (Nat.le_refl _) (by simp) (Nat.le_refl _) hb0
 ·have hlb:len≤140737488351232:=Nat.le_trans (Nat.le_mul_of_pos_right len hpos) hsm
  refine wpList_append_own _ hgd s x t ho W.heap.size e i0 (.int k 0) 1 bytes hu hi hz0 hz1 hz2 rfl (by decide) _ 0 [] hs gI y len cap ((zs.take len).map (Value.int k)) hx (by rw[List.length_map,jZ];omega) ?_ (ints_oneCell k _) (by unfold maxLen;omega) (by rw[Nat.zero_add];omega) (by simp) ?_
  ·intro j u hj
   rw[List.getElem?_map,List.getElem?_take] at hj
   by_cases hjl:j<len
   ·rw[if_pos hjl] at hj
    have hlt:j<zs.length:=by omega
    rw[List.getElem?_eq_getElem hlt] at hj
    simp at hj
    subst hj
    have hcj:=hc j hlt
    rw[List.getD_eq_getElem?_getD,List.getElem?_eq_getElem hlt] at hcj
    exact(World.grownBy_alloc W _ none).cell hcj (by simp)
   ·rw[if_neg hjl] at hj
    simp at hj
  ·intro v' w' hown' hg hiff
   rw[Nat.zero_add,List.nil_append] at hown'
   rcases hown'.2 with ⟨hnil,_⟩|⟨gb,c,cur,rfl,hgb,hh,hlc,_⟩
   ·have:=(hiff.1 hnil).1
    cases this
   ·exact h gb c w' hown' hgb (lt_of_block hh) hlc (hb0.grown hg (by simp) (fun q hq=>by cases hq;exact Nat.le_refl _))
end
section
open Go.RowKit
def aB (w:World) (g:Nat) (l:List Int):Prop:=∃rest:List Value,w.heap[g]? =some (.cells (l.map (Value.int .i64)++rest).toArray 3 (0,0))
section
variable {w w':World} {g:Nat} {l:List Int}
theorem aB.lt (h:aB w g l):g<w.heap.size:=by
 obtain⟨rest,h⟩:=h
 exact lt_of_block h
theorem aB.cell (h:aB w g l) {i:Nat} {x:Int} (hx:l[i]? =some x):w.cell? ⟨g,i,none⟩=some (.int .i64 x):=by
 obtain⟨rest,h⟩:=h
 have hl:=(List.getElem?_eq_some_iff.1 hx).1
 have:(l.map (Value.int .i64)++rest)[i]? =some (.int .i64 x):=by
  rw[List.getElem?_append_left (by simpa using hl),List.getElem?_map,hx]
  rfl
 simp[World.cell?,h]
 simpa using this
theorem aB.free (h:aB w g l) (i:Nat):w.frozen? ⟨g,i,none⟩=false:=by
 obtain⟨rest,h⟩:=h
 simp[World.frozen?,h]
theorem aB.set (h:aB w g l) {i:Nat} (hi:i<l.length) (x:Int):aB (w.setCell ⟨g,i,none⟩ (.int .i64 x)) g (l.set i x):=by
 obtain⟨rest,h⟩:=h
 refine⟨rest,?_⟩
 rw[heap_setCell_same w g i _ _ _ h]
 have e:((l.map (Value.int .i64)++rest).toArray.setIfInBounds i (.int .i64 x))=((l.set i x).map (Value.int .i64)++rest).toArray:=by
  rw[List.setIfInBounds_toArray,List.set_append_left _ _ (by simpa using hi),List.map_set]
 rw[e]
theorem aB.other (h:aB w g l) {b i:Nat} (hb:g≠b) (x:Value):aB (w.setCell ⟨b,i,none⟩ x) g l:=by
 obtain⟨rest,h⟩:=h
 exact⟨rest,(heap_setCell_other w ⟨b,i,none⟩ g x hb).trans h⟩
theorem aB.later (h:aB w g l) (hb:Below w.heap.size w w'):aB w' g l:=by
 have hl:=h.lt
 obtain⟨rest,h⟩:=h
 exact⟨rest,(hb.block g hl).trans h⟩
theorem aB.alloc (h:aB w g l) (o:Obj):aB (w.alloc o) g l:=by
 have hl:=h.lt
 obtain⟨rest,h⟩:=h
 exact⟨rest,(Below.heap_alloc w o g hl).trans h⟩
theorem aB.drew (h:aB w g l):aB w.drew g l:=h
theorem aq.ins (h:aq w g l):aB w g l:=⟨[],by rw[List.append_nil];exact h⟩
end
theorem lU {w:World} {B g n c:Nat} {xs:List Int} (h:w.ownsRow B 3 1 (.slice (some ⟨g,0,none⟩) n c) n (xs.map (Value.int .i64))):aB w g xs:=by
 rcases h.2 with ⟨h,_⟩|⟨g',cap,cur,e,_,hh,_,_,hs,ht⟩
 ·cases h
 cases e
 refine⟨cur.toList.drop (n*1),?_⟩
 rw[←ht,List.take_append_drop]
 exact hh
structure aF (S:Nat→Prop) (w w':World):Prop where
 os:w'.os=w.os
 tape:w'.tape=w.tape
 output:w'.output=w.output
 size:w.heap.size≤w'.heap.size
 block:∀k,k<w.heap.size→¬S k→w'.heap[k]? =w.heap[k]?
section
variable {S:Nat→Prop} {w w' w0:World}
theorem aF.refl (S:Nat→Prop) (w:World):aF S w w:=⟨rfl,rfl,rfl,Nat.le_refl _,fun _ _ _=>rfl⟩
theorem aF.trans (h:aF S w0 w) (k:aF S w w'):aF S w0 w':=
 ⟨k.os.trans h.os,k.tape.trans h.tape,k.output.trans h.output,Nat.le_trans h.size k.size,fun i hi hn=>(k.block i (Nat.lt_of_lt_of_le hi h.size) hn).trans (h.block i hi hn)⟩
theorem aF.setCell (h:aF S w0 w) {b i:Nat} (hb:S b) (x:Value):aF S w0 (w.setCell ⟨b,i,none⟩ x):=
 ⟨h.os,h.tape,h.output,by simpa using h.size,fun k hk hn=>(heap_setCell_other w ⟨b,i,none⟩ k x (fun e=>hn (by rw[e];exact hb))).trans (h.block k hk hn)⟩
theorem aF.drew (h:aF S w0 w):aF S w0 w.drew:=⟨h.os,h.tape,h.output,h.size,h.block⟩
theorem aF.drewN (h:aF S w0 w) (k:Nat):aF S w0 (w.drewN k):=⟨h.os,h.tape,h.output,h.size,h.block⟩
theorem aF.later (h:aF S w0 w) (hb:Below w.heap.size w w'):aF S w0 w':=
 ⟨hb.os.trans h.os,hb.tape.trans h.tape,hb.output.trans h.output,Nat.le_trans h.size hb.size,fun k hk hn=>(hb.block k (Nat.lt_of_lt_of_le hk h.size)).trans (h.block k hk hn)⟩
theorem aF.alloc (h:aF S w0 w) (o:Obj):aF S w0 (w.alloc o):=h.later ((Below.refl _ _).alloc (Nat.le_refl _) o)
theorem aF.below {B:Nat} (h:aF S w w') (hB:B≤w.heap.size) (hS:∀k,S k→B≤k):Below B w w':=
 ⟨h.os,h.tape,h.output,h.size,fun k hk=>h.block k (Nat.lt_of_lt_of_le hk hB) (fun hs=>by have:=hS k hs;omega)⟩
theorem aF.ints {g:Nat} {l:List Int} (h:aF S w w') (hi:aB w g l) (hg:¬S g):aB w' g l:=by
 have hl:=hi.lt
 obtain⟨rest,hi⟩:=hi
 exact⟨rest,(h.block g hl hg).trans hi⟩
theorem aF.mono {S':Nat→Prop} (h:aF S w w') (hS:∀k,k<w.heap.size→S k→S' k):aF S' w w':=
 ⟨h.os,h.tape,h.output,h.size,fun k hk hn=>h.block k hk (fun hs=>hn (hS k hk hs))⟩
end
end
section
open Go.RowKit
abbrev sl (g n:Nat):Value:= .slice (some ⟨g,0,none⟩) n n
def bT (w:World) (p gd gs gh gp gt n M:Nat):Prop:=w.heap[p]? =some (.cells #[sl gd n,sl gs n,sl gh M,sl gp M,sl gt M] 132 (0,0))
section
variable {w w':World} {p gd gs gh gp gt n M:Nat}
theorem bT.lt (h:bT w p gd gs gh gp gt n M):p<w.heap.size:=lt_of_block h
theorem bT.later (h:bT w p gd gs gh gp gt n M) (hb:Below w.heap.size w w'):bT w' p gd gs gh gp gt n M:=(hb.block p h.lt).trans h
theorem bT.other (h:bT w p gd gs gh gp gt n M) {b i:Nat} (hb:p≠b) (x:Value):bT (w.setCell ⟨b,i,none⟩ x) p gd gs gh gp gt n M:=(heap_setCell_other w ⟨b,i,none⟩ p x hb).trans h
theorem bT.wrote {S:Nat→Prop} (h:bT w p gd gs gh gp gt n M) (hw:aF S w w') (hp:¬S p):bT w' p gd gs gh gp gt n M:=(hw.block p h.lt hp).trans h
theorem bT.c0 (h:bT w p gd gs gh gp gt n M):w.cell? ⟨p,0,none⟩=some (.slice (some ⟨gd,0,none⟩) n n):=by unfold bT at h;simp[World.cell?,h]
theorem bT.c1 (h:bT w p gd gs gh gp gt n M):w.cell? ⟨p,1,none⟩=some (.slice (some ⟨gs,0,none⟩) n n):=by unfold bT at h;simp[World.cell?,h]
theorem bT.c2 (h:bT w p gd gs gh gp gt n M):w.cell? ⟨p,2,none⟩=some (.slice (some ⟨gh,0,none⟩) M M):=by unfold bT at h;simp[World.cell?,h]
theorem bT.c3 (h:bT w p gd gs gh gp gt n M):w.cell? ⟨p,3,none⟩=some (.slice (some ⟨gp,0,none⟩) M M):=by unfold bT at h;simp[World.cell?,h]
theorem bT.c4 (h:bT w p gd gs gh gp gt n M):w.cell? ⟨p,4,none⟩=some (.slice (some ⟨gt,0,none⟩) M M):=by unfold bT at h;simp[World.cell?,h]
end
end
section
open Go.RowKit
set_option maxRecDepth 100000 in
set_option maxHeartbeats 4000000 in
theorem N7 (p gd gs gh gp gt gf cf n M:Nat) (H Pl T F:List Int) (h u v q:Nat) (w:World) (hA:bT w p gd gs gh gp gt n M) (iH:aB w gh H) (iP:aB w gp Pl) (iT:aB w gt T) (iF:aB w gf F)
 (lH:H.length=M) (lP:Pl.length=M) (lT:T.length=M) (lF:F.length=n) (hh:h<M) (hu:u<n) (hq:F[u]? =some (q:Int)) (hqM:q<M) (hM:M≤8388608)
 (d2:p≠gp) (d3:p≠gt) (d5:gh≠gp) (d6:gh≠gt) (d7:gp≠gt) (d8:gf≠gh) (d9:gf≠gp) (d10:gf≠gt):
 Calls Tryz.prog 109 #[.pointer (some ⟨p,0,none⟩),.int .i64 h,.int .i64 u,.int .i64 v,.slice (some ⟨gf,0,none⟩) n cf] w fun e w'=>
  e= .returned (.tuple #[])∧aB w' gh (H.set q h)∧aB w' gp (Pl.set h q)∧aB w' gt (T.set h v)∧aB w' gf (F.set u ((q:Int)+1))∧aF (fun b=>b=gh∨b=gp∨b=gt∨b=gf) w w':=by
 obtain⟨w1,hw1⟩:∃w1,w1=w.setCell ⟨gt,h,none⟩ (.int .i64 v):=⟨_,rfl⟩
 obtain⟨w2,hw2⟩:∃w2,w2=w1.setCell ⟨gp,h,none⟩ (.int .i64 q):=⟨_,rfl⟩
 obtain⟨w3,hw3⟩:∃w3,w3=w2.setCell ⟨gh,q,none⟩ (.int .i64 h):=⟨_,rfl⟩
 obtain⟨x0,hx0⟩:∃x,T[h]? =some x:=⟨_,List.getElem?_eq_getElem (by omega)⟩
 obtain⟨x1,hx1⟩:∃x,Pl[h]? =some x:=⟨_,List.getElem?_eq_getElem (by omega)⟩
 obtain⟨x2,hx2⟩:∃x,H[q]? =some x:=⟨_,List.getElem?_eq_getElem (by omega)⟩
 have A1:=hA.other (i:=h) d3 (.int .i64 v)
 have H1:=iH.other (i:=h) d6 (.int .i64 v)
 have P1:=iP.other (i:=h) d7 (.int .i64 v)
 have T1:=iT.set (i:=h) (by omega) (v:Int)
 have F1:=iF.other (i:=h) d10 (.int .i64 v)
 rw[←hw1] at A1 H1 P1 T1 F1
 have A2:=A1.other (i:=h) d2 (.int .i64 q)
 have H2:=H1.other (i:=h) d5 (.int .i64 q)
 have P2:=P1.set (i:=h) (by omega) (q:Int)
 have T2:=T1.other (i:=h) (Ne.symm d7) (.int .i64 q)
 have F2:=F1.other (i:=h) d9 (.int .i64 q)
 rw[←hw2] at A2 H2 P2 T2 F2
 have H3:=H2.set (i:=q) (by omega) (h:Int)
 have P3:=P2.other (i:=q) (Ne.symm d5) (.int .i64 h)
 have T3:=T2.other (i:=q) (Ne.symm d6) (.int .i64 h)
 have F3:=F2.other (i:=q) d8 (.int .i64 h)
 rw[←hw3] at H3 P3 T3 F3
 have H4:=H3.other (i:=u) (Ne.symm d8) (.int .i64 ((q:Int)+1))
 have P4:=P3.other (i:=u) (Ne.symm d9) (.int .i64 ((q:Int)+1))
 have T4:=T3.other (i:=u) (Ne.symm d10) (.int .i64 ((q:Int)+1))
 have F4:=F3.set (i:=u) (by omega) ((q:Int)+1)
 have sq:aF (fun b=>b=gh∨b=gp∨b=gt∨b=gf) w (w3.setCell ⟨gf,u,none⟩ (.int .i64 ((q:Int)+1))):=by
  rw[hw3,hw2,hw1]
  exact((((aF.refl _ w).setCell (.inr (.inr (.inl rfl))) _).setCell (.inr (.inl rfl)) _).setCell (.inl rfl) _).setCell (.inr (.inr (.inr rfl))) _
 have bI:=Nu.hid (And.intro H4 (And.intro P4 (And.intro T4 (And.intro F4 sq))))
 have a4:=hA.c4
 have a3:=A1.c3
 have a2:=A2.c2
 have t0:=iT.cell hx0
 have tf:=iT.free
 have p0:=P1.cell hx1
 have pf:=P1.free
 have f1:=F1.cell hq
 have h0:=H2.cell hx2
 have hf:=H2.free
 have f2:=F2.cell hq
 have f3:=F3.cell hq
 have f3f:=F3.free
 have jR:=Nu.hid hw1
 have kR:=Nu.hid hw2
 have m8:=Nu.hid hw3
 have s1:w1.heap.size=w.heap.size:=by rw[hw1];simp
 have i0:(0:Int)≤(h:Int):=by omega
 have i1:(h:Int)<(M:Int):=by omega
 have i2:(0:Int)≤(u:Int):=by omega
 have i3:(u:Int)<(n:Int):=by omega
 have i4:(0:Int)≤(q:Int):=by omega
 have i5:(q:Int)<(M:Int):=by omega
 clear hA iH iP iT iF A1 H1 P1 T1 F1 A2 H2 P2 T2 F2 H3 P3 T3 F3 H4 P4 T4 F4 sq hw1 hw2 hw3 hx0 hx1 hx2 hq lH lP lT lF d2 d3 d5 d6 d7 d8 d9 d10
 go_enter Tryz.func109,Tryz.ntmps109
 go_wp2_with fail
 rw[←jR.out]
 go_big_region
 rw[←kR.out]
 go_wp2_with fail
 go_big_region
 rw[←m8.out]
 go_wp2
 go_end0
 exact⟨rfl,bI.out.1,bI.out.2.1,bI.out.2.2.1,bI.out.2.2.2.1,bI.out.2.2.2.2.drew.drew⟩
theorem EA {w:World} {g n:Nat} {S:List Int} (h:aB w g S) (hl:S.length=n) (hn:n≤8388608) (hw:∀x∈S,-9223372036854775808≤x∧x≤9223372036854775807):rq .i64 8 w (some ⟨g,0,none⟩) n n S:=by
 refine .inr ⟨_,rfl,Nat.le_refl _,by omega,hl,fun i hi=> ?_,fun x hx=>WalkArith.wf_i64 (by have:=hw x hx;omega)⟩
 have e:((⟨g,0,none⟩:Addr).add i)=⟨g,i,none⟩:=by
  by_cases h0:i=0<;>simp[Addr.add,h0]
 rw[e]
 exact h.cell (by rw[List.getD_eq_getElem?_getD,List.getElem?_eq_getElem hi];rfl)
set_option maxRecDepth 100000 in
set_option maxHeartbeats 4000000 in
theorem KP (g n:Nat) (S:List Int) (w:World) (h:aB w g S) (hl:S.length=n) (hn:n≤8388608) (hw:∀x∈S,-9223372036854775808≤x∧x≤9223372036854775807):
 Calls Tryz.prog 108 #[.slice (some ⟨g,0,none⟩) n n] w fun e w'=>∃gf cf,e= .returned (.slice (some ⟨gf,0,none⟩) n cf)∧w.heap.size≤gf∧aB w' gf S∧Below w.heap.size w w':=by
 obtain⟨i0,hi,hz0,hz1,hz2⟩:=info_parts Tryz.bS
 have hr:=EA h hl hn hw
 have HR:=Nu.hid hr
 have hnil:=fun w=>Lib.run_eql_slice_nil (P:=Tryz.prog) w 27 3 (some ⟨g,0,none⟩) n n 0 0 Tryz.underlying27
 clear hr h hw
 go_enter Tryz.func108,Tryz.ntmps108
 go_wp2_with (at_builtin;refine Ep rfl _ _ 27 rfl 3 .i64 i0 8 Tryz.underlying27 hi hz0 hz1 hz2 (by decide) w (some ⟨g,0,none⟩) n n S rfl rfl HR.out ?_;refine Hid.out ?_)
 refine Nu.hid ?_
 intro gb c w1 hrow hgb hlt hc hb
 have HX:=Nu.hid hrow
 have HB:=Nu.hid hb
 have HG:=Nu.hid hgb
 clear hrow hb hgb
 go_wp2
 go_ret
 refine⟨gb,c,rfl,HG.out,?_,HB.out⟩
 have:=HX.out
 rw[List.take_of_length_le (by simp;omega)] at this
 exact lU this
def IG (es:List (Int×Int)) (n M:Nat) (w:World) (e:Ending) (w':World):Prop:=
 ∃(gs:Nat) (S:List Int),e= .returned (.slice (some ⟨gs,0,none⟩) n n)∧w.heap.size≤gs∧gs<w'.heap.size∧aB w' gs S∧S.length=n∧(∀v,v<n→S[v]? =some (Cs.st es M v:Int))∧Below w.heap.size w w'
set_option maxRecDepth 100000 in
set_option maxHeartbeats 4000000 in
theorem FY (es:List (Int×Int)) (gd n M:Nat) (D:List Int) (w:World) (hD:aB w gd D) (hl:D.length=n) (hn:n≤1048576) (hM:M≤8388608) (hd:∀v,v<n→D[v]? =some ((Cs.out es v M).length:Int)) (hf:∀i,i<M→Cs.fr es i<n):
 Calls Tryz.prog 75 #[.slice (some ⟨gd,0,none⟩) n n] w (IG es n M w):=by
 obtain⟨i0,hi,hz0,hz1,hz2⟩:=info_parts Tryz.bS
 have HD:=Nu.hid hD
 have HDD:=Nu.hid hd
 have HF:=Nu.hid hf
 have hlt:=hD.lt
 clear hD hd hf
 go_enter Tryz.func75,Tryz.ntmps75
 go_wp2_with (at_make;refine wpList_make_full _ rfl _ _ 27 rfl w.heap.size 3 i0 (.int .i64 0) 1 Tryz.underlying27 hi hz0 hz1 _ _ _ _ n rfl rfl rfl rfl (by rw[hz2];omega) (by unfold maxLen;omega) (Nat.le_refl _) ?_;refine Hid.out ?_)
 refine Nu.hid ?_
 intro w2 hrow hg2
 rw[cD] at hrow
 have hik:=(dy hrow).ins
 have hb2:Below w.heap.size w w2:=(Below.refl _ _).grown hg2 (Nat.le_refl _) (fun j hj=>by cases hj)
 have fY:=Nu.hid hik
 have cz:=Nu.hid hb2
 clear hrow hg2 hik hb2
 go_wp2
 go_loopw [4,11] (fun s c wr=>∃(k:Nat) (S:List Int),k≤n∧c= .int .i64 k∧s= .int .i64 (Cs.st es M k)∧S.length=n∧(∀v,v<k→S[v]? =some (Cs.st es M v:Int))∧aB wr w.heap.size S∧Below w.heap.size w wr) (fun _ c _=>n-(intOf c).toNat)
 case atStart=>exact⟨0,_,Nat.zero_le _,rfl,rfl,by simp,fun v hv=>by omega,fY.out,cz.out⟩
 case round=>
  obtain⟨k,S,hk,rfl,rfl,KB,hS,iB,hb⟩:=hrel
  have hsz:=iB.lt
  have HS:=Nu.hid hS
  have HIS:=Nu.hid iB
  have HB:=Nu.hid hb
  by_cases hkn:k<n
  ·have hk0:(0:Int)≤(k:Int):=by omega
   have hk1:(k:Int)<(n:Int):=by omega
   obtain⟨x,hx⟩:∃x,S[k]? =some x:=⟨_,List.getElem?_eq_getElem (by omega)⟩
   have c0:=iB.cell hx
   have c1:=iB.free
   have n1:=iB.set (i:=k) (by omega) (Cs.st es M k:Int)
   have OD:=Nu.hid n1
   have d1:(wr.setCell ⟨w.heap.size,k,none⟩ (.int .i64 (Cs.st es M k))).cell? ⟨gd,k,none⟩=some (.int .i64 ((Cs.out es k M).length:Int)):=by
    have:=(HD.out.later hb).cell (HDD.out k hkn)
    rw[←this]
    simp[World.cell?,heap_setCell_other wr ⟨w.heap.size,k,none⟩ gd _ (by simp;omega)]
   have I0:=Nu.hid (hb.setCell (p:=⟨w.heap.size,k,none⟩) (Nat.le_refl _) (.int .i64 (Cs.st es M k:Int)))
   have hle:=Cs.zK HF.out hkn
   have hst:Cs.st es M (k+1)=Cs.st es M k+(Cs.out es k M).length:=rfl
   have HST:=Nu.hid hst
   have hny:∃y,y=(Cs.out es k M).length:=⟨_,rfl⟩
   obtain⟨y,hy⟩:=hny
   have hnz:∃z,z=Cs.st es M k:=⟨_,rfl⟩
   obtain⟨z,hz⟩:=hnz
   have HZ:=Nu.hid hz.symm
   rw[←hy] at d1 hle hst HST
   rw[←hz] at d1 hle hst HST OD I0 n1 ⊢
   clear hS iB hb n1 hx hst hy hz
   go_wp2
   go_roundw
   case rel=>
    refine⟨k+1,S.set k z,by omega,by go_num,by rw[HST.out];go_num,by simp[KB],fun v hv=> ?_,OD.out,I0.out⟩
    rw[List.getElem?_set]
    by_cases e:k=v
    ·subst e
     rw[if_pos rfl,if_pos (by omega),HZ.out]
    ·rw[if_neg e]
     exact HS.out v (by omega)
   case measure=>simp[intOf];omega
  ·have hd:¬((k:Int)<(n:Int)):=by omega
   clear hS iB hb
   go_wp2
   go_ret
   exact⟨w.heap.size,S,rfl,Nat.le_refl _,hsz,HIS.out,KB,fun v hv=>HS.out v (by omega),HB.out⟩
def Em (es:List (Int×Int)) (n M gh gp gt:Nat) (w:World) (e:Ending) (w':World):Prop:=
 e= .returned (.tuple #[])∧(∃H Pl T F:List Int,Cs.nE es n M M H Pl T F∧aB w' gh H∧aB w' gp Pl∧aB w' gt T)∧aF (fun b=>b=gh∨b=gp∨b=gt) w w'
theorem aF.next {S S':Nat→Prop} {w0 w w':World} (h:aF S w0 w) (k:aF S' w w') (hS:∀b,b<w0.heap.size→S' b→S b):aF S w0 w':=
 ⟨k.os.trans h.os,k.tape.trans h.tape,k.output.trans h.output,Nat.le_trans h.size k.size,fun i hi hn=>(k.block i (Nat.lt_of_lt_of_le hi h.size) (fun hs=>hn (hS i hi hs))).trans (h.block i hi hn)⟩
def p6 (es:List (Int×Int)) (p gd gs gh gp gt gf n M k:Nat) (w:World):Prop:=
 bT w p gd gs gh gp gt n M∧∃H Pl T F:List Int,Cs.nE es n M k H Pl T F∧aB w gh H∧aB w gp Pl∧aB w gt T∧aB w gf F
theorem p6.later {es:List (Int×Int)} {p gd gs gh gp gt gf n M k:Nat} {w w':World} (h:p6 es p gd gs gh gp gt gf n M k w) (hb:Below w.heap.size w w'):p6 es p gd gs gh gp gt gf n M k w':=by
 obtain⟨hA,H,Pl,T,F,hf,h1,h2,h3,h4⟩:=h
 exact⟨hA.later hb,H,Pl,T,F,hf,h1.later hb,h2.later hb,h3.later hb,h4.later hb⟩
structure MC (p gh gp gt gf:Nat):Prop where
 d1:p≠gh
 d2:p≠gp
 d3:p≠gt
 d4:p≠gf
 d5:gh≠gp
 d6:gh≠gt
 d7:gp≠gt
 d8:gf≠gh
 d9:gf≠gp
 d10:gf≠gt
theorem GP (es:List (Int×Int)) (p gd gs gh gp gt gf cf n M k:Nat) (w:World) (hL:p6 es p gd gs gh gp gt gf n M k w) (hlt:∀i,i<M→Cs.fr es i<n) (hk:k<M) (hM:M≤8388608) (hd:MC p gh gp gt gf):
 Calls Tryz.prog 109 #[.pointer (some ⟨p,0,none⟩),.int .i64 k,.int .i64 (Cs.fr es k:Int),.int .i64 (Cs.to es k:Int),.slice (some ⟨gf,0,none⟩) n cf] w fun e w'=>
  e= .returned (.tuple #[])∧p6 es p gd gs gh gp gt gf n M (k+1) w'∧aF (fun b=>b=gh∨b=gp∨b=gt∨b=gf) w w':=by
 obtain⟨hA,H,Pl,T,F,hf,h1,h2,h3,h4⟩:=hL
 refine(N7 p gd gs gh gp gt gf cf n M H Pl T F k (Cs.fr es k) (Cs.to es k) (Cs.pos es M k) w hA h1 h2 h3 h4 hf.lH hf.lP hf.lT hf.lF hk (hlt k hk) (hf.at (hlt k hk)) (Cs.LM hlt hk) hM hd.d2 hd.d3 hd.d5 hd.d6 hd.d7 hd.d8 hd.d9 hd.d10).mono ?_
 rintro e w' ⟨he,k1,k2,k3,k4,hw⟩
 refine⟨he,⟨hA.wrote hw (fun h=> ?_),_,_,_,_,hf.step hlt hk,k1,k2,k3,k4⟩,hw⟩
 rcases h with h|h|h|h
 ·exact hd.d1 h
 ·exact hd.d2 h
 ·exact hd.d3 h
 ·exact hd.d4 h
set_option maxRecDepth 100000 in
set_option maxHeartbeats 8000000 in
theorem NZ (es:List (Int×Int)) (ao:Option Addr) (cap p gd gs gh gp gt n M:Nat) (S H Pl T:List Int) (w0 w:World) (hv:Si.Val n es) (hM:M=2*es.length) (he:aL w0 ao es) (hb:Below w0.heap.size w0 w)
 (hA:bT w p gd gs gh gp gt n M) (iS:aB w gs S) (iH:aB w gh H) (iP:aB w gp Pl) (iT:aB w gt T) (lS:S.length=n) (hS:∀v,v<n→S[v]? =some (Cs.st es M v:Int)) (lH:H.length=M) (lP:Pl.length=M) (lT:T.length=M)
 (b1:w0.heap.size≤gh) (b2:w0.heap.size≤gp) (b3:w0.heap.size≤gt) (d1:p≠gh) (d2:p≠gp) (d3:p≠gt) (d5:gh≠gp) (d6:gh≠gt) (d7:gp≠gt):
 Calls Tryz.prog 76 #[.pointer (some ⟨p,0,none⟩),.slice ao es.length cap] w (Em es n M gh gp gt w):=by
 have cq:=hv.few
 have hhi:=hv.hi
 have hlt:∀i,i<M→Cs.fr es i<n:=fun i hi=>(Cs.bH hv (by omega)).1
 have hwf:∀x∈S,-9223372036854775808≤x∧x≤9223372036854775807:=fun x hx=>by
  obtain⟨v,hv',rfl⟩:=List.getElem_of_mem hx
  have h1:=hS v (by omega)
  rw[List.getElem?_eq_getElem hv'] at h1
  have h2:=Cs.zK (v:=v) hlt (by omega)
  have h3:=Option.some.inj h1
  omega
 have hcl:=KP gs n S w iS lS (by omega) hwf
 have FE:=Nu.hid hcl
 have a1:=hA.c1
 have s1:=iH.lt
 have s2:=iP.lt
 have s3:=iT.lt
 have s4:=hA.lt
 have HV:=Nu.hid hv
 have yR:=Nu.hid hlt
 have HE:=Nu.hid he
 have HB:=Nu.hid hb
 have hF0:Cs.nE es n M 0 H Pl T S:=⟨lH,lP,lT,lS,fun i hi=>by omega,fun i hi=>by omega,fun i hi=>by omega,fun v hv=>by rw[hS v hv];simp[Cs.out]⟩
 have HPD:Hid (∀gf,w.heap.size≤gf→MC p gh gp gt gf):=fun gf hgf=>⟨d1,d2,d3,by omega,d5,d6,d7,by omega,by omega,by omega⟩
 have OE:Hid (∀gf w2,Below w.heap.size w w2→aB w2 gf S→p6 es p gd gs gh gp gt gf n M 0 w2):=fun gf w2 hb hi=>⟨hA.later hb,H,Pl,T,S,hF0,iH.later hb,iP.later hb,iT.later hb,hi⟩
 clear hcl hv hlt he hb hA hF0 iS iH iP iT hS hwf lH lP lT lS d1 d2 d3 d5 d6 d7
 go_enter Tryz.func76,Tryz.ntmps76
 go_wp2_with (go_at_call 108;refine FE.out.mono ?_;rintro e w2 ⟨gf,cf,rfl,hgf,ZF,hb2⟩;refine Hid.out ?_)
 refine Nu.hid ?_
 have cz:=Nu.hid hb2
 have jN:=Nu.hid (OE.out gf w2 hb2 ZF)
 have HPG:=Nu.hid (HPD.out gf hgf)
 have hgs:=ZF.lt
 clear hb2 ZF FE
 go_wp2
 go_loopw [14] (fun c wr=>∃k:Nat,k≤es.length∧c= .int .i64 k∧p6 es p gd gs gh gp gt gf n M (2*k) wr∧aF (fun b=>b=gh∨b=gp∨b=gt) w wr) (fun c _=>es.length-(intOf c).toNat)
 case atStart=>exact⟨0,Nat.zero_le _,rfl,jN.out,(aF.refl _ _).later cz.out⟩
 case round=>
  obtain⟨k,hk,rfl,G8,hwr⟩:=hrel
  have afv:=Nu.hid G8
  have nT:=Nu.hid hwr
  by_cases hlt:k<es.length
  ·have oA:(k:Int)<(es.length:Int):=by omega
   have hk0:(0:Int)≤(k:Int):=by omega
   obtain⟨q,hq⟩:∃q,es[k]? =some q:=⟨_,List.getElem?_eq_getElem hlt⟩
   have hb3:Below w0.heap.size w0 wr:=HB.out.trans (hwr.below HB.out.size (fun b hb=>by rcases hb with rfl|rfl|rfl<;>assumption))
   obtain⟨b,o,rfl,c0,c1⟩:=(HE.out.later hb3) k q hq
   have hbl:b<wr.heap.size:=block_lt_of_cell c0
   have hok:=HV.out.each k q hq
   unfold Si.ok at hok
   obtain⟨qu,qv⟩:=q
   dsimp only at c0 c1 hok
   obtain⟨u,rfl⟩:∃u:Nat,qu=(u:Int):=⟨qu.toNat,by omega⟩
   obtain⟨v,rfl⟩:∃v:Nat,qv=(v:Int):=⟨qv.toNat,by omega⟩
   obtain⟨e1,e2⟩:=Cs.iR hq
   obtain⟨e3,e4⟩:=Cs.nw hq
   dsimp only[Int.toNat_natCast] at e1 e2 e3 e4
   have mF:=GP es p gd gs gh gp gt gf cf n M (2*k) _ (G8.later ((Below.refl _ _).alloc (Nat.le_refl _) (.cells #[.int .i64 u,.int .i64 v] 55))) yR.out (by omega) (by omega) HPG.out
   rw[e1,e2,show((2*k:Nat):Int)=2*(k:Int) by omega] at mF
   have hl2:=fun W hW=>GP es p gd gs gh gp gt gf cf n M (2*k+1) W hW yR.out (by omega) (by omega) HPG.out
   rw[e3,e4,show((2*k+1:Nat):Int)=2*(k:Int)+1 by omega] at hl2
   have Te:=Nu.hid mF
   have Yc:=Nu.hid hl2
   have hnew:(wr.alloc (.cells #[.int .i64 u,.int .i64 v] 55)).heap[wr.heap.size]? =some (.cells #[.int .i64 u,.int .i64 v] 55 (0,0)):=heap_alloc_new wr _
   have hsw:=hwr.size
   have hpf:=HPG.out
   have ajY:gf<wr.heap.size:=by
    obtain⟨_,_,_,_,_,_,_,_,_,h4⟩:=G8
    exact h4.lt
   have IW:Hid (¬(wr.heap.size=gh∨wr.heap.size=gp∨wr.heap.size=gt∨wr.heap.size=gf)):=by
    show ¬_
    omega
   have nC:=Nu.hid hnew
   clear mF hl2 G8 hwr hb3 hok hq hnew hpf
   go_wp2_with (go_at_call 109;refine Te.out.mono ?_;rintro e w3 ⟨rfl,QF,hw3⟩;refine Hid.out ?_)
   refine Nu.hid ?_
   have Zv:=(hw3.block wr.heap.size (by simp) IW.out).trans nC.out
   obtain⟨x0,x1,-⟩:=az Zv
   have Yb:=Nu.hid (Yc.out w3 QF)
   have m8:=Nu.hid (((nT.out.alloc _).next hw3 (fun b hb h=>by rcases h with h|h|h|h;exact .inl h;exact .inr (.inl h);exact .inr (.inr h);omega)))
   have hs3:=hw3.size
   have ajZ:=lt_of_block Zv
   clear hw3 QF Zv Te Yc nC
   go_wp2_with (go_at_call 109;refine Yb.out.mono ?_;rintro e w4 ⟨rfl,QE,hw4⟩;refine Hid.out ?_)
   refine Nu.hid ?_
   have nU:=Nu.hid (m8.out.next hw4 (fun b hb h=>by rcases h with h|h|h|h;exact .inl h;exact .inr (.inl h);exact .inr (.inr h);omega))
   have HL4:=Nu.hid QE
   clear hw4 QE Yb
   go_wp2
   go_roundw
   case rel=>exact⟨k+1,by omega,by go_num,HL4.out,nU.out⟩
   case measure=>simp[intOf];omega
  ·have hd:¬((k:Int)<(es.length:Int)):=by omega
   obtain rfl:k=es.length:=by omega
   clear G8 hwr
   go_wp2
   go_end0
   obtain⟨_,H1,P1,T1,F1,hf,i1,i2,i3,_⟩:=afv.out
   rw[hM] at hf
   exact⟨rfl,⟨H1,P1,T1,F1,hf,i1,i2,i3⟩,nT.out⟩
end
end Go.Proofs.YtnhcggfbkoppnaaGreat
