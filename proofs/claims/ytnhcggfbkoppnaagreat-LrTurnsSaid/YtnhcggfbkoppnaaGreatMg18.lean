import Derived.Test.YtnhcggfbkoppnaaGreatMg17
import Derived.Shelf.Abstract
import Derived.Lib.SliceRun
import Derived.Test.YtnhcggfbkoppnaaGreatMg05
import Derived.Laws.AppendOwnNone
import Derived.Test.YtnhcggfbkoppnaaGreatMg04
namespace Go.Proofs.YtnhcggfbkoppnaaGreat
section
open Go.RowKit
theorem qi {P:Program} (w:World) (d:Nat) (t:TypeId) (kf:Nat) (bs:Array Value) {ps rs:Array TypeId} {vd:Bool} (h:P.underlying t=some (.func ps rs vd)):
 (Op.equalIn (d+1) t (.func (.func kf) #[] bs) .nilFunc).run P w= .ok false w:=by
 simp[Op.equalIn,run_underlying h]
theorem uF {P:Program} (w:World) (t:TypeId) (kf:Nat) (bs:Array Value) {ps rs:Array TypeId} {vd:Bool} (h:P.underlying t=some (.func ps rs vd)):(binOp .eql t (.func (.func kf) #[] bs) .nilFunc).run P w= .ok (.bool false) w:=by
 simp only[binOp]
 simp[Op.equal,Op.maxDepth,qi w 9999 t kf bs h]
def Ed (most:Int) (ks:List Int) (w:World) (e:Ending) (w':World):Prop:=
 ((Bu.fault most ks≠0∧e= .returned (.tuple #[.slice none 0 0,.int .i64 (Bu.fault most ks)]))∨
  (Bu.fault most ks=0∧∃g:Nat,e= .returned (.tuple #[.slice (some ⟨g,0,none⟩) ks.length ks.length,.int .i64 0])∧w.heap.size≤g∧aq w' g ks))∧Below w.heap.size w w'
set_option maxRecDepth 100000 in
set_option maxHeartbeats 8000000 in
theorem EN (kf:Nat) (bs:Array Value) (key:Int→Int) (most:Int) (ao:Option Addr) (ca n:Nat) (xs ks:List Int) (w:World) (hn:xs.length=n) (hl:n≤17592186043904) (ha:dc w ao xs) (hks:ks=xs.map key)
 (DI:∀(args:Array Value) (w:World),(callFunc kf args).run Tryz.prog w= .ok (.enter kf args) w) (eY:∀W x,Below w.heap.size w W→x∈xs→Calls Tryz.prog kf (#[.int .i64 x]++bs) W fun e w'=>e= .returned (.int .i64 (key x))∧Below W.heap.size W w'):
 Calls Tryz.prog 142 #[.slice ao n ca,.func (.func kf) #[] bs,.int .i64 most] w (Ed most ks w):=by
 obtain⟨i0,hi,hz0,hz1,hz2⟩:=info_parts Tryz.bS
 have HA:=Nu.hid ha
 have HN:=Nu.hid hn
 have Lx:=Nu.hid eY
 have HKS:=Nu.hid hks
 have hnil:=fun w=>uF (P:=Tryz.prog) w 136 kf bs Tryz.underlying136
 have HLEN:Hid (ks.length=n):=by show _=_;rw[hks,List.length_map,hn]
 clear ha hn eY hks
 by_cases h1:most<0
 ·have HF:Hid (Bu.fault most ks=2):=Bu.tN (.inl h1)
  go_enter Tryz.func142,Tryz.ntmps142
  go_wp2
  go_ret2
  exact⟨.inl ⟨by rw[HF.out];decide,by rw[HF.out];rfl⟩,Below.refl _ _⟩
 by_cases h2:4194304<most
 ·have HF:Hid (Bu.fault most ks=2):=Bu.tN (.inr h2)
  go_enter Tryz.func142,Tryz.ntmps142
  go_wp2
  go_ret2
  exact⟨.inl ⟨by rw[HF.out];decide,by rw[HF.out];rfl⟩,Below.refl _ _⟩
 have SS:Hid (¬(most<0∨4194304<most)):=by show ¬_;omega
 go_enter Tryz.func142,Tryz.ntmps142
 go_wp2_with (at_make;refine wpList_make_full _ rfl _ _ 27 rfl w.heap.size 3 i0 (.int .i64 0) 1 Tryz.underlying27 hi hz0 hz1 _ _ _ _ n rfl rfl rfl rfl (by rw[hz2];omega) (by unfold maxLen;omega) (Nat.le_refl _) ?_;refine Hid.out ?_)
 refine Nu.hid ?_
 intro w2 hrow hg2
 rw[cD] at hrow
 have fY:=Nu.hid (dy hrow)
 have cz:Hid (Below w.heap.size w w2):=(Below.refl _ _).grown hg2 (Nat.le_refl _) (fun j hj=>by cases hj)
 clear hrow hg2
 go_wp2
 go_loopw [27] (fun c wr=>∃(i:Nat) (R:List Int),i≤n∧c= .int .i64 i∧R.length=n∧(∀j,j<i→R[j]? =ks[j]?)∧(ks.take i).any (Bu.bad most)=false∧aq wr w.heap.size R∧Below w.heap.size w wr) (fun c _=>n-(intOf c).toNat)
 case atStart=>exact⟨0,_,Nat.zero_le _,rfl,by simp,fun j hj=>by omega,by simp,fY.out,cz.out⟩
 case round=>
  obtain⟨i,R,hin,rfl,CM,hR,DR,CA,hb⟩:=hrel
  have HR:=Nu.hid hR
  have OG:=Nu.hid CA
  have HB:=Nu.hid hb
  have Yp:=Nu.hid DR
  by_cases hlt:i<n
  ·have hk0:(0:Int)≤(i:Int):=by omega
   have hk1:(i:Int)<(n:Int):=by omega
   obtain⟨x,hx⟩:∃x,xs[i]? =some x:=⟨_,List.getElem?_eq_getElem (by have:=HN.out;omega)⟩
   have ql:ks[i]? =some (key x):=by rw[HKS.out,List.getElem?_map,hx];rfl
   obtain⟨b,o,rfl,c0⟩:=(HA.out.later HB.out) i _ hx
   have HC:=Nu.hid (Lx.out wr x hb (List.mem_of_getElem? hx))
   obtain⟨y,hy⟩:∃y,R[i]? =some y:=⟨_,List.getElem?_eq_getElem (by omega)⟩
   generalize key x=z at ql HC
   have FB:=Nu.hid ql
   have HY:=Nu.hid hy
   clear hR CA hb DR hx ql hy
   go_wp2_with (go_at_fn kf;refine HC.out.mono ?_;rintro e w3 ⟨rfl,hb3⟩;refine Hid.out ?_)
   refine Nu.hid ?_
   have dM:=Nu.hid (HB.out.trans (hb3.mono HB.out.size))
   have DC:=OG.out.later hb3
   clear hb3
   by_cases q1:z<0
   ·have HF:Hid (Bu.fault most ks=60):=Bu.tO SS.out (Bu.MA FB.out (Bu.IB (.inl q1)))
    clear DC
    go_wp2
    go_ret2
    exact⟨.inl ⟨by rw[HF.out];decide,by rw[HF.out];rfl⟩,dM.out⟩
   by_cases q2:most<z
   ·have HF:Hid (Bu.fault most ks=60):=Bu.tO SS.out (Bu.MA FB.out (Bu.IB (.inr q2)))
    clear DC
    go_wp2
    go_ret2
    exact⟨.inl ⟨by rw[HF.out];decide,by rw[HF.out];rfl⟩,dM.out⟩
   have c2:=DC.cell HY.out
   have f2:=DC.free i
   have FA:=Nu.hid (Bu.BH FB.out Yp.out (Bu.My (by omega)))
   have SR:=Nu.hid (DC.set i z)
   have gJ:=Nu.hid (dM.out.setCell (p:=⟨w.heap.size,i,none⟩) (Nat.le_refl _) (.int .i64 z))
   have su:=Nu.hid (qw (by rw[CM,HLEN.out]) HR.out FB.out)
   have SQ:Hid ((R.set i z).length=n):=by show _=_;simp[CM]
   clear DC
   go_wp2
   go_roundw
   case rel=>exact⟨i+1,_,by omega,by go_num,SQ.out,su.out,FA.out,SR.out,gJ.out⟩
   case measure=>simp[intOf];omega
  ·have hd:¬((i:Int)<(n:Int)):=by omega
   obtain rfl:i=n:=by omega
   clear hR CA hb DR
   go_wp2
   go_ret2
   have hks:ks.take i=ks:=List.take_of_length_le (by have:=HLEN.out;omega)
   have e:R=ks:=List.ext_getElem? fun j=>by
    by_cases hj:j<i
    ·exact HR.out j hj
    ·rw[List.getElem?_eq_none (by omega),List.getElem?_eq_none (by have:=HLEN.out;omega)]
   have DR:=Yp.out
   rw[hks] at DR
   refine⟨.inr ⟨Bu.qY SS.out DR,w.heap.size,?_,Nat.le_refl _,?_⟩,HB.out⟩
   ·rw[HLEN.out];rfl
   ·rw[←e];exact OG.out
end
section
open Go.RowKit
theorem KM {most:Int} {ks:List Int} (h:Bu.fault most ks=0):0≤most∧most≤4194304∧Bu.In most ks∧Bu.In 4194304 ks:=by
 rcases Bu.Fh most ks with ⟨_,h1⟩|⟨_,_,h1⟩|⟨h1,h2,_⟩
 ·omega
 ·omega
 ·have h3:=Bu.Vh h2
  exact⟨by omega,by omega,h3,fun z hz=>by have:=h3 z hz;omega⟩
end
section
open Go.RowKit
set_option maxRecDepth 100000 in
set_option maxHeartbeats 4000000 in
theorem IA (ao:Option Addr) (n ca:Nat) (l:List Int) (w:World) (h:iu w ao n ca l) (hn:n≤17592186043904):
 Calls Tryz.prog 108 #[.slice ao n ca] w fun e w'=>∃bo cb,e= .returned (.slice bo n cb)∧iu w' bo n cb l∧Below w.heap.size w w':=by
 have HR:=Nu.hid h
 have hnil:=fun w=>Lib.run_eql_slice_nil (P:=Tryz.prog) w 27 3 ao n ca 0 0 Tryz.underlying27
 rcases ao with _|y
 ·obtain⟨rfl,rfl⟩:=h.none rfl
  clear h
  go_enter Tryz.func108,Tryz.ntmps108
  go_wp2
  go_ret
  exact⟨none,0,rfl,HR.out,Below.refl _ _⟩
 ·clear h
  go_enter Tryz.func108,Tryz.ntmps108
  go_wp2_with (at_builtin;refine vS rfl _ _ rfl w (some y) n ca l rfl rfl HR.out hn ?_;refine Hid.out ?_)
  refine Nu.hid ?_
  intro gb c w1 hrow hgb hlt hc hb
  have HX:=Nu.hid hrow
  have HB:=Nu.hid hb
  clear hrow hb hgb
  go_wp2
  go_ret
  refine⟨some ⟨gb,0,none⟩,c,rfl,?_,HB.out⟩
  have hi:=lU HX.out
  exact⟨HR.out.len,fun j x hj=>⟨gb,0,rfl,by rw[Nat.zero_add];exact hi.cell hj⟩,fun e=>by cases e⟩
def Oj (most:Int) (ks xs:List Int) (w:World) (e:Ending) (w':World):Prop:=
 ((Bu.fault most ks≠0∧e= .returned (.tuple #[.slice none 0 0,.int .i64 (Bu.fault most ks)]))∨
  (Bu.fault most ks=0∧∃(g:Nat) (S:List Int),e= .returned (.tuple #[.slice (some ⟨g,0,none⟩) xs.length xs.length,.int .i64 0])∧w.heap.size≤g∧aq w' g S∧Bu.Sorted ks xs S))∧Below w.heap.size w w'
set_option maxRecDepth 100000 in
set_option maxHeartbeats 8000000 in
theorem Ey (kf:Nat) (bs:Array Value) (key:Int→Int) (most:Int) (ao:Option Addr) (ca n:Nat) (xs ks:List Int) (w:World) (hl:n≤17592186043904) (ha:iu w ao n ca xs) (hks:ks=xs.map key)
 (DI:∀(args:Array Value) (w:World),(callFunc kf args).run Tryz.prog w= .ok (.enter kf args) w) (eY:∀W x,Below w.heap.size w W→x∈xs→Calls Tryz.prog kf (#[.int .i64 x]++bs) W fun e w'=>e= .returned (.int .i64 (key x))∧Below W.heap.size W w'):
 Calls Tryz.prog 125 #[.slice ao n ca,.func (.func kf) #[] bs,.int .i64 most] w (Oj most ks xs w):=by
 obtain⟨i0,hi,hz0,hz1,hz2⟩:=info_parts Tryz.bS
 have HN:=Nu.hid ha.len
 have HLEN:Hid (ks.length=n):=by show _=_;rw[hks,List.length_map,ha.len]
 have FE:=Nu.hid (IA ao n ca xs w ha hl)
 have HK:Hid (∀W bo cb,iu W bo n cb xs→Below w.heap.size w W→Calls Tryz.prog 142 #[.slice bo n cb,.func (.func kf) #[] bs,.int .i64 most] W (Ed most ks W)):=fun W bo cb h hb=>
  EN kf bs key most bo cb n xs ks W h.len hl h.ints hks DI (fun W2 x hb2 hx=>eY W2 x (hb.trans (hb2.mono hb.size)) hx)
 clear ha eY DI hks
 go_enter Tryz.func125,Tryz.ntmps125
 go_wp2_with (go_at_call 108;refine FE.out.mono ?_;rintro e w1 ⟨bo,cb,rfl,hst,hb1⟩;have HST:=Nu.hid hst;have aV:=Nu.hid hb1;clear hst hb1;refine Hid.out ?_)
 refine Nu.hid ?_
 have C8:=Nu.hid (HK.out w1 bo cb HST.out aV.out)
 clear HK FE
 by_cases hf:Bu.fault most ks=0
 ·have HF:=Nu.hid hf
  have cq:=(KM hf).2.2.2
  have afX:=Nu.hid cq
  have xq:Hid (Calls Tryz.prog 142 #[.slice bo n cb,.func (.func kf) #[] bs,.int .i64 most] w1 fun e w'=>∃g:Nat,e= .returned (.tuple #[.slice (some ⟨g,0,none⟩) n n,.int .i64 0])∧w1.heap.size≤g∧aq w' g ks∧Below w1.heap.size w1 w'):=C8.out.mono (by
   rintro e w' ⟨⟨h1,_⟩|⟨_,g,h2,h3,h4⟩,hb⟩
   ·exact absurd HF.out h1
   ·rw[HLEN.out] at h2
    exact⟨g,h2,h3,h4,hb⟩)
  clear C8 hf cq
  go_wp2_with (go_at_call 142;refine xq.out.mono ?_;rintro e w2 ⟨g,rfl,hg,hkb,hb2⟩;have HKB:=Nu.hid hkb;have cz:=Nu.hid (aV.out.trans (hb2.mono aV.out.size));have Ef:=Nu.hid (HST.out.later hb2);clear hkb hb2 hg;refine Hid.out ?_)
  refine Nu.hid ?_
  clear xq HST aV
  go_wp2_with (at_make;refine wpList_make_full _ rfl _ _ 27 rfl w2.heap.size 3 i0 (.int .i64 0) 1 Tryz.underlying27 hi hz0 hz1 _ _ _ _ n rfl rfl rfl rfl (by rw[hz2];omega) (by unfold maxLen;omega) (Nat.le_refl _) ?_;refine Hid.out ?_)
  refine Nu.hid ?_
  intro w3 hrow hg3
  rw[cD] at hrow
  have hb3:Below w2.heap.size w2 w3:=(Below.refl _ _).grown hg3 (Nat.le_refl _) (fun j hj=>by cases hj)
  have uk:=Nu.hid (dy hrow)
  have XQ:=Nu.hid (Ef.out.later hb3)
  have Yg:=Nu.hid (HKB.out.later hb3)
  have dM:=Nu.hid (cz.out.trans (hb3.mono cz.out.size))
  have P7:=cz.out.size
  have WB:∀x,bo=some x→0<n→x.block<w2.heap.size:=fun x hx h0=>by
   obtain⟨z,hz⟩:∃z,xs[0]? =some z:=⟨_,List.getElem?_eq_getElem (by have:=HN.out;omega)⟩
   obtain⟨b,o,e,hc⟩:=Ef.out.ints 0 z hz
   rw[hx] at e
   cases e
   exact block_lt_of_cell hc
  have SH:=Nu.hid WB
  obtain⟨G,hG⟩:∃G,G=w2.heap.size:=⟨_,rfl⟩
  rw[←hG] at uk SH P7 ⊢
  have HRK:=Nu.hid (JG (some ⟨g,0,none⟩) n n ks w3 HLEN.out hl Yg.out.at afX.out)
  clear hrow hg3 hb3 Ef HKB cz hG WB
  go_wp2_with (go_at_call 143;refine HRK.out.mono ?_;rintro e w4 ⟨gr,rfl,hgr,hrb,hb4⟩;rw[HLEN.out];have HRB:=Nu.hid hrb;have afb:=Nu.hid (XQ.out.later hb4);have Lm:=Nu.hid (uk.out.later hb4);have ajW:=Nat.lt_of_lt_of_le uk.out.lt hgr;have gJ:=Nu.hid (dM.out.trans (hb4.mono dM.out.size));clear hrb hb4 hgr;refine Hid.out ?_)
  refine Nu.hid ?_
  clear HRK XQ uk dM Yg
  go_wp2
  go_loopw [32] (fun c wr=>∃(i:Nat) (S:List Int),i≤n∧c= .int .i64 i∧Bu.Laid ks xs S i∧iu wr bo n cb xs∧aq wr gr (Bu.pz ks)∧aq wr G S∧Below w.heap.size w wr) (fun c _=>n-(intOf c).toNat)
  case atStart=>exact⟨0,_,Nat.zero_le _,rfl,⟨by rw[HLEN.out];simp,fun i hi=>by omega⟩,afb.out,HRB.out,Lm.out,gJ.out⟩
  case round=>
   obtain⟨i,S,hin,rfl,hS,hst,hrb,iB,hb⟩:=hrel
   have HS:=Nu.hid hS
   have HIS:=Nu.hid iB
   have HB:=Nu.hid hb
   by_cases hlt:i<n
   ·have hk0:(0:Int)≤(i:Int):=by omega
    have hk1:(i:Int)<(n:Int):=by omega
    have Kf:=Bu.Dp (ks:=ks) (i:=i) (by rw[HLEN.out];exact hlt)
    have hrl:=Bu.EB (ks:=ks) (i:=i) (by rw[HLEN.out];exact hlt)
    rw[HLEN.out] at hrl
    obtain⟨x,hx⟩:∃x,xs[i]? =some x:=⟨_,List.getElem?_eq_getElem (by have:=HN.out;omega)⟩
    have jL:=Nu.hid (hS.step (by rw[HLEN.out];exact hlt) hx)
    obtain⟨q,hq⟩:∃q,Bu.rk ks i=q:=⟨_,rfl⟩
    rw[hq] at Kf hrl jL
    obtain⟨y,hy⟩:∃y,S[q]? =some y:=⟨_,List.getElem?_eq_getElem (by rw[hS.len,HLEN.out];exact hrl)⟩
    obtain⟨b,o,ZJ,c0⟩:=hst.ints i x hx
    have hbG:b≠G:=by
     have:=SH.out _ ZJ (by omega)
     dsimp only at this
     have:=Lm.out
     intro e
     subst e
     omega
    have c1:=hrb.cell Kf
    have c2:=iB.cell hy
    have f2:=iB.free q
    have afa:Hid (iu (wr.setCell ⟨G,q,none⟩ (.int .i64 x)) bo n cb xs):=⟨hst.len,fun j z hj=>by
     obtain⟨b',o',e',hc⟩:=hst.ints j z hj
     refine⟨b',o',e',?_⟩
     rw[ZJ] at e'
     cases e'
     rw[←hc]
     simp[World.cell?,heap_setCell_other wr ⟨G,q,none⟩ b _ hbG],hst.none⟩
    have afk:=Nu.hid (hrb.other (i:=q) (show gr≠G by omega) (.int .i64 x))
    have afC:=Nu.hid (iB.set q x)
    have gj:=Nu.hid (hb.setCell (p:=⟨G,q,none⟩) P7 (.int .i64 x))
    have q0:(0:Int)≤(q:Int):=by omega
    have q1:(q:Int)<(n:Int):=by omega
    subst ZJ
    clear hS hst hrb iB hb hx Kf hq hy SH
    go_wp2
    go_roundw
    case rel=>exact⟨i+1,_,by omega,by go_num,jL.out,afa.out,afk.out,afC.out,gj.out⟩
    case measure=>simp[intOf];omega
   ·have hd:¬((i:Int)<(n:Int)):=by omega
    obtain rfl:i=n:=by omega
    clear hS hst hrb iB hb
    go_wp2
    go_ret2
    refine⟨.inr ⟨HF.out,G,S,by rw[HN.out];rfl,P7,HIS.out,⟨HS.out.len,fun j hj=>HS.out.put j (by have:=HLEN.out;omega)⟩⟩,HB.out⟩
 ·have HF:=Nu.hid hf
  have xq:Hid (Calls Tryz.prog 142 #[.slice bo n cb,.func (.func kf) #[] bs,.int .i64 most] w1 fun e w'=>e= .returned (.tuple #[.slice none 0 0,.int .i64 (Bu.fault most ks)])∧Below w1.heap.size w1 w'):=C8.out.mono (by
   rintro e w' ⟨⟨_,h1⟩|⟨h1,_⟩,hb⟩
   ·exact⟨h1,hb⟩
   ·exact absurd h1 HF.out)
  obtain⟨q,hq⟩:∃q,Bu.fault most ks=q:=⟨_,rfl⟩
  rw[hq] at xq hf
  have j0:(q != 0)=true:=by simp[hf]
  have HQ:=Nu.hid hq
  clear C8 hq
  go_wp2_with (go_at_call 142;refine xq.out.mono ?_;rintro e w2 ⟨rfl,hb2⟩;have cz:=Nu.hid (aV.out.trans (hb2.mono aV.out.size));clear hb2;refine Hid.out ?_)
  refine Nu.hid ?_
  go_wp2
  go_ret2
  exact⟨.inl ⟨HF.out,by rw[HQ.out];rfl⟩,cz.out⟩
end
section
open Go.RowKit
theorem m9 {ops:Array Oper} {rest:List Oper} {o:Oper} {a:Act} {Q:Exit→Act→World→Prop} (hgd:o.guard=none) (s x:Operand)
 (ho:o.op= .call { callee:= .builtin .append,args:= #[s,x],argTypes:= #[28,28] }) (W:World) (ao:Option Addr) (n ca:Nat) (l:List Int) (hs:a.eval s= .slice (some ⟨W.heap.size,0,none⟩) 0 0) (hx:a.eval x= .slice ao n ca)
 (hr:iu W ao n ca l) (hn:n≤17592186043904)
 (h:∀gb c w',w'.ownsRow W.heap.size 3 1 (.slice (some ⟨gb,0,none⟩) n c) n (l.map (Value.int .i64))→W.heap.size≤gb→gb<w'.heap.size→n≤c→Below W.heap.size W w'→wpList Tryz.prog ops Q rest (a.put o.dst (.slice (some ⟨gb,0,none⟩) n c)) w'):
 wpList Tryz.prog ops Q (o::rest) a (W.alloc (.cells #[] 3)):=by
 obtain⟨i0,hi,hz0,hz1,hz2⟩:=info_parts Tryz.bS
 have gI:(W.alloc (.cells #[] 3)).ownsRow W.heap.size 3 1 (.slice (some ⟨W.heap.size,0,none⟩) 0 0) 0 []:=World.ownsRow_made W #[] 0 (Nat.le_refl _) (Nat.zero_le _) rfl
 have hb0:Below W.heap.size W (W.alloc (.cells #[] 3)):=(Below.refl _ _).alloc (Nat.le_refl _) _
 rcases ao with _|y
 ·obtain⟨rfl,rfl⟩:=hr.none rfl
  have hl:l=[]:=List.length_eq_zero_iff.1 hr.len
  subst hl
  refine wpList_append_own_none hgd s x 28 ho W.heap.size 3 i0 1 Tryz.underlying28 hi _ 0 [] hs gI hx ?_
  exact h _ _ _ gI (Nat.le_refl _) (by simp) (Nat.le_refl _) hb0
 ·refine wpList_append_own _ hgd s x 28 ho W.heap.size 3 i0 (.int .i64 0) 1 8 Tryz.underlying28 hi hz0 hz1 hz2 rfl (by decide) _ 0 [] hs gI y n ca (l.map (Value.int .i64)) hx (by rw[List.length_map,hr.len];omega) ?_ (ints_oneCell .i64 _) (by unfold maxLen;omega) (by rw[Nat.zero_add];omega) (by simp) ?_
  ·intro j u hj
   rw[List.getElem?_map] at hj
   cases AW:l[j]? with
   |none=>rw[AW] at hj;cases hj
   |some z=>
    rw[AW] at hj
    obtain rfl:=Option.some.inj hj
    obtain⟨b,o',e,hc⟩:=hr.ints j z AW
    cases e
    have ea:((⟨b,o',none⟩:Addr).add j)=⟨b,o'+j,none⟩:=by
     by_cases h0:j=0<;>simp[Addr.add,h0]
    rw[ea]
    exact(World.grownBy_alloc W _ none).cell hc (by simp)
  ·intro v' w' hown' hg hiff
   rw[Nat.zero_add,List.nil_append] at hown'
   rcases hown'.2 with ⟨hnil,_⟩|⟨gb,c,cur,rfl,hgb,hh,hlc,_⟩
   ·have:=(hiff.1 hnil).1
    cases this
   ·exact h gb c w' hown' hgb (lt_of_block hh) hlc (hb0.grown hg (by simp) (fun q hq=>by cases hq;exact Nat.le_refl _))
set_option maxRecDepth 100000 in
set_option maxHeartbeats 4000000 in
theorem Gk (ao:Option Addr) (n ca:Nat) (l:List Int) (w:World) (h:iu w ao n ca l) (hn:n≤17592186043904):
 Calls Tryz.prog 68 #[.slice ao n ca] w fun e w'=>∃bo cb,e= .returned (.slice bo n cb)∧aS w' w.heap.size (.slice bo n cb) l∧Below w.heap.size w w':=by
 have HR:=Nu.hid h
 have hnil:=fun w=>Lib.run_eql_slice_nil (P:=Tryz.prog) w 28 3 ao n ca 0 0 Tryz.underlying28
 rcases ao with _|y
 ·obtain⟨rfl,rfl⟩:=h.none rfl
  have hl:l=[]:=List.length_eq_zero_iff.1 h.len
  subst hl
  clear h
  go_enter Tryz.func68,Tryz.ntmps68
  go_wp2
  go_ret
  exact⟨none,0,rfl,aS.nil _ _,Below.refl _ _⟩
 ·clear h
  go_enter Tryz.func68,Tryz.ntmps68
  go_wp2_with (at_builtin;refine m9 rfl _ _ rfl w (some y) n ca l rfl rfl HR.out hn ?_;refine Hid.out ?_)
  refine Nu.hid ?_
  intro gb c w1 hrow hgb hlt hc hb
  have HX:=Nu.hid hrow
  have HB:=Nu.hid hb
  clear hrow hb hgb
  go_wp2
  go_ret
  refine⟨some ⟨gb,0,none⟩,c,rfl,?_,HB.out⟩
  unfold aS
  rw[HR.out.len]
  exact HX.out
end
section
open Go.RowKit
namespace aj
def bQ (L:Nat→Bool) (i:Nat):Nat→Bool:=fun j=>if j=i then true else L j
theorem ot {ops:Array Oper} {a0:Act} {ρ:Nat→Value} {L:Nat→Bool}:∀{k:Nat},(∀i,i<k→L i=true)→part ops a0 ρ L k=canon ops a0 ρ k
 |0,_=>rfl
 |k+1,h=>by
  unfold part canon
  rw[if_pos (h k (by omega)),ot fun i hi=>h i (by omega)]
theorem oI {P:Program} {ops:Array Oper} {Q:Exit→Act→World→Prop} {a0:Act} {w0:World} (val:Nat→Value) (C:(Nat→Bool)→World→Prop) (N:Nat) (hN:a0.tmps.size=N) (hsh:shape ops ops.size (fun _=>[])=true)
 (tL:C (fun _=>false) w0)
 (hstep:∀i o (L:Nat→Bool) w (ev:Operand→Value),ops[i]? =some o→L i=false→C L w→(∀e∈o.after,Region.binds .any e=true→L e.on=true)→(∀j o',ops[j]? =some o'→L j=true→∀e∈o'.after,Region.binds .any e=true→L e.on=true)→
   (∀j t,j<i→dst ops j=some t→t<N→ev (.tmp t)=val j)→(∀t,((List.range i).all fun j=>dst ops j != some t)=true→ev (.tmp t)=a0.eval (.tmp t))→(∀v,ev (.const v)=v)→(∀f,ev (.func f)= .func (.func f) #[] #[])→
   cF P o ev w fun v w'=>v=val i∧C (bQ L i) w')
 (hend:∀L w,(∀i,i<ops.size→L i=true)→C L w→Q .normal (canon ops a0 val ops.size) w):
 wpAny P .any ops Q ops.size (Array.replicate ops.size false) a0 w0:=by
 have hs:=fun i (hi:i<ops.size)=>List.all_eq_true.1 hsh i (List.mem_range.2 hi)
 have hlt:∀{j t},dst ops j=some t→j<ops.size:=fun {j t} h=>by
  rcases Nat.lt_or_ge j ops.size with h1|h1
  ·exact h1
  ·unfold dst at h;rw[Array.getElem?_eq_none h1] at h;cases h
 have hone:∀i j t,i≠j→dst ops j=some t→dst ops i≠some t:=fun i j t hij hj hi=>by
  have h1:=hs j (hlt hj)
  dsimp only at h1
  cases ho:ops[j]? with
  |none=>rw[ho] at h1;cases h1
  |some o=>
   have hd:o.dst=some t:=by unfold dst at hj;rw[ho] at hj;exact hj
   rw[ho] at h1
   simp only[Bool.and_eq_true] at h1
   have h2:=h1.1
   rw[hd] at h2
   have h3:=List.all_eq_true.1 h2 i (List.mem_range.2 (hlt hi))
   simp only[Bool.or_eq_true,beq_iff_eq,bne_iff_ne] at h3
   rcases h3 with h3|h3
   ·exact hij h3
   ·exact h3 hi
 have hop:∀i,i<ops.size→∃o,ops[i]? =some o∧o.guard=none∧(∀cs b,o.op≠.select cs b)∧
  (∀t,Operand.tmp t∈o.op.operands→∀j,j<ops.size→dst ops j=some t→j<i∧∃e∈o.after,Region.binds .any e=true∧e.on=j)∧(∀e∈o.after,Region.binds .any e=true→e.on<i):=fun i hi=>by
  have h1:=hs i hi
  dsimp only at h1
  cases ho:ops[i]? with
  |none=>rw[ho] at h1;cases h1
  |some o=>
   rw[ho] at h1
   simp only[Bool.and_eq_true,if_pos hi] at h1
   obtain⟨_,⟨⟨⟨g1,g2⟩,g4⟩,_⟩,g6⟩:=h1
   refine⟨o,rfl,by simpa using g1,(fun cs b hsel=>by rw[hsel] at g2;cases g2),fun t ht j hj hd=> ?_,fun e he hb=> ?_⟩
   ·have h2:=List.all_eq_true.1 g4 (.tmp t) (by simpa using ht)
    dsimp only at h2
    have h3:=List.all_eq_true.1 h2 j (List.mem_range.2 hj)
    simp only[Bool.or_eq_true,bne_iff_ne,Bool.and_eq_true,decide_eq_true_eq,List.any_eq_true,beq_iff_eq] at h3
    rcases h3 with h3|⟨h3,e,he,h4⟩
    ·exact absurd hd h3
    ·exact⟨h3,e,by simpa using he,h4⟩
   ·have h2:=Array.all_eq_true_iff_forall_mem.1 g6 e he
    rw[hb] at h2
    simpa using h2
 have fin:∀(listed:Array Bool),listed.size=ops.size→Region.ready .any ops listed=[]→∀i,i<ops.size→listed.getD i false=true:=by
  intro listed hl hr i
  induction i using Nat.strongRecOn with
  |_ i ih=>
   intro hi
   by_cases hb:listed.getD i false=true
   ·exact hb
   ·exfalso
    have hi':i<listed.size:=by omega
    have h0:listed.getD i true=false:=by
     simp[hi'] at hb ⊢
     exact hb
    obtain⟨o,ho,_,_,_,dZ⟩:=hop i hi
    have hm:i∈Region.ready .any ops listed:=by
     rw[mem_ready]
     refine⟨h0,o,ho,fun e he hbd=> ?_⟩
     have:=dZ e he hbd
     exact ih e.on this (by omega)
    rw[hr] at hm
    cases hm
 have key:∀(fuel:Nat) (listed:Array Bool) (w:World),listed.size=ops.size→listed.toList.count false=fuel→C (fun j=>listed.getD j false) w→(∀j o',ops[j]? =some o'→listed.getD j false=true→∀e∈o'.after,Region.binds .any e=true→listed.getD e.on false=true)→
  wpAny P .any ops Q fuel listed (part ops a0 val (fun j=>listed.getD j false) ops.size) w:=by
  intro fuel
  induction fuel with
  |zero=>
   intro listed w hl hc hC hdc
   have hall:∀i,i<ops.size→listed.getD i false=true:=fun i hi=>by
    have hm:¬false∈listed.toList:=fun h=>by
     have:=List.count_pos_iff.2 h
     omega
    have hi':i<listed.size:=by omega
    by_cases nM:listed[i]=true
    ·simp[hi',nM]
    ·exfalso
     have e:listed[i]=false:=by simpa using nM
     exact hm (by rw[←e];simp)
   refine⟨?_,by rw[ot hall];exact hend _ _ hall hC⟩
   refine List.eq_nil_iff_forall_not_mem.2 fun i hi=> ?_
   rw[mem_ready] at hi
   obtain⟨h0,o,ho,_⟩:=hi
   have h1:=hall i (Array.getElem?_eq_some_iff.1 ho).1
   have hi':i<listed.size:=by have:=(Array.getElem?_eq_some_iff.1 ho).1;omega
   simp[hi'] at h0 h1
   rw[h0] at h1
   cases h1
  |succ fuel ih=>
   intro listed w hl hc hC hdc
   refine⟨fun hr=>by rw[ot (fin listed hl hr)];exact hend _ _ (fin listed hl hr) hC,fun i hi=> ?_⟩
   rw[mem_ready] at hi
   obtain⟨h0,o,ho,bU⟩:=hi
   have hin:=(Array.getElem?_eq_some_iff.1 ho).1
   have hi':i<listed.size:=by omega
   obtain⟨o',ho',hgd,hsel,hread,_⟩:=hop i hin
   rw[ho] at ho'
   cases ho'
   have bO:listed.getD i false=false:=by
    simp[hi'] at h0 ⊢
    exact h0
   have hev:execOp (part ops a0 val (fun j=>listed.getD j false) ops.size).eval o=execOp (canon ops a0 val i).eval o:=by
    refine execOp_congr o hsel fun x hx=> ?_
    cases x with
    |tmp t=>
     refine nk (fun i j hij=>hone i j t hij) (by omega) fun j hj hd=> ?_
     obtain⟨h1,e,he,hbd,rfl⟩:=hread t hx j (by omega) hd
     exact⟨h1,bU e he hbd⟩
    |_=>rfl
   have qI:=hstep i o (fun j=>listed.getD j false) w (canon ops a0 val i).eval ho bO hC bU hdc (fun j t hj hd ht=>by
    rw[cZ,kI hd (fun i hi=>hone i j t hi hd) rfl i hj,if_pos (by rw[hN];exact ht)]) (fun t ht=>by
    rw[cZ,fP i fun j hj _=>by
     have:=List.all_eq_true.1 ht j (List.mem_range.2 hj)
     simpa using this]) (fun v=>rfl) (fun f=>rfl)
   unfold wpOp
   rw[ho]
   dsimp only
   have hw:Region.wanted o (yielded ops (part ops a0 val (fun j=>listed.getD j false) ops.size).tmps)=true:=by
    unfold Region.wanted
    rw[hgd]
   rw[if_pos hw]
   refine .inl ?_
   have tE:cF P o (part ops a0 val (fun j=>listed.getD j false) ops.size).eval w fun v w'=>v=val i∧C (bQ (fun j=>listed.getD j false) i) w':=by
    unfold cF at qI ⊢
    rw[hev]
    exact qI
   refine tE.wp fun v w' hv=> ?_
   obtain⟨rfl,hC'⟩:=hv
   have A5:o.dst=dst ops i:=by unfold dst;rw[ho];rfl
   have fu:∀j,(listed.setIfInBounds i true).getD j false=if j=i then true else listed.getD j false:=fun j=>by
    by_cases e:j=i
    ·subst e
     rw[if_pos rfl]
     simp[hi']
    ·rw[if_neg e]
     exact getD_set_ne false (fun h=>e h.symm)
   rw[A5,rM hone bO hin,nj (L':=fun j=>(listed.setIfInBounds i true).getD j false) (ρ':=val) (fun j=>(fu j).symm) (fun j _=>by unfold upd;split;rename_i e;rw[e];rfl)]
   refine ih (listed.setIfInBounds i true) w' (by simpa using hl) ?_ ?_ ?_
   ·rw[Array.toList_setIfInBounds]
    have hi2:i<listed.toList.length:=by simpa using hi'
    have e:listed.toList[i]=false:=by
     simp[hi'] at h0
     simpa using h0
    have hpos:0<listed.toList.count false:=List.count_pos_iff.2 (by rw[←e];exact List.getElem_mem hi2)
    rw[List.count_set hi2,e,if_pos (by decide),if_neg (by decide)]
    omega
   ·have e:(fun j=>(listed.setIfInBounds i true).getD j false)=bQ (fun j=>listed.getD j false) i:=funext fun j=>by rw[fu];rfl
    rw[e]
    exact hC'
   ·intro j o' hj hjl e he uV
    rw[fu] at hjl ⊢
    by_cases e1:e.on=i
    ·rw[if_pos e1]
    ·rw[if_neg e1]
     by_cases e2:j=i
     ·subst e2
      rw[ho] at hj
      cases hj
      exact bU e he uV
     ·rw[if_neg e2] at hjl
      exact hdc j o' hj hjl e he uV
 have hnone:∀j,(Array.replicate ops.size false).getD j false=false:=fun j=>by by_cases hk:j<ops.size<;>simp[hk]
 have h0:part ops a0 val (fun j=>(Array.replicate ops.size false).getD j false) ops.size=a0:=by
  have:∀k,part ops a0 val (fun j=>(Array.replicate ops.size false).getD j false) k=a0:=by
   intro k
   induction k with
   |zero=>rfl
   |succ k ih=>
    unfold part
    rw[ih,hnone k,if_neg (by decide)]
  exact this _
 have hk:=key ops.size (Array.replicate ops.size false) w0 (by simp) (by simp) (by rw[show(fun j=>(Array.replicate ops.size false).getD j false)=fun _=>false from funext hnone];exact tL) (fun j o' _ h=>by rw[hnone j] at h;cases h)
 rw[h0] at hk
 exact hk
end aj
end
section
open Go.RowKit
namespace AnyM
def bG (A:World):List (Nat×World)→(Nat→Bool)→World→Prop
 |[],_,V=>V=A
 |(k,w)::r,L,V=>if L k=true then V=w else bG A r L V
theorem other {A:World} {i:Nat}:∀{r:List (Nat×World)} {L:Nat→Bool} {V:World},(r.all fun q=>q.1 != i)=true→bG A r L V→bG A r (aj.bQ L i) V
 |[],_,_,_,h=>h
 |(k,w)::r,L,V,hk,h=>by
  rw[List.all_cons,Bool.and_eq_true] at hk
  have e1:aj.bQ L i k=L k:=if_neg (fun e=>by simp[e] at hk)
  unfold bG at h ⊢
  rw[e1]
  split
  ·rename_i hl
   rw[if_pos hl] at h
   exact h
  ·rename_i hl
   rw[if_neg hl] at h
   exact other hk.2 h
theorem jH {P:Program} {o:Oper} {ev:Operand→Value} {R:Value→World→Prop} {f:FuncId} {args:Array Value} {v:Value} {V V':World} (h:(execOp ev o).run P V= .ok (.enter f args) V) (hc:Calls P f args V fun e w'=>e= .returned v∧w'=V') (hR:R v V'):aj.cF P o ev V R:=by
 unfold aj.cF
 rw[h]
 exact hc.mono fun e w' ⟨h1,h2⟩=>⟨v,h1,by rw[h2];exact hR⟩
def cH (A:World→Prop):List (Nat×(World→Prop))→(Nat→Bool)→World→Prop
 |[],_,V=>A V
 |(k,Q)::r,L,V=>if L k=true then Q V else cH A r L V
theorem aW {A:World→Prop} {i:Nat}:∀{r:List (Nat×(World→Prop))} {L:Nat→Bool} {V:World},(r.all fun q=>q.1 != i)=true→cH A r L V→cH A r (aj.bQ L i) V
 |[],_,_,_,h=>h
 |(k,w)::r,L,V,hk,h=>by
  rw[List.all_cons,Bool.and_eq_true] at hk
  have e1:aj.bQ L i k=L k:=if_neg (fun e=>by simp[e] at hk)
  unfold cH at h ⊢
  rw[e1]
  split
  ·rename_i hl
   rw[if_pos hl] at h
   exact h
  ·rename_i hl
   rw[if_neg hl] at h
   exact aW hk.2 h
theorem g9 {P:Program} {o:Oper} {ev:Operand→Value} {R:Value→World→Prop} {f:FuncId} {args:Array Value} {v:Value} {V:World} {S:World→Prop} (h:(execOp ev o).run P V= .ok (.enter f args) V) (hc:Calls P f args V fun e w'=>e= .returned v∧S w') (hR:∀w',S w'→R v w'):aj.cF P o ev V R:=by
 unfold aj.cF
 rw[h]
 exact hc.mono fun e w' ⟨h1,h2⟩=>⟨v,h1,hR w' h2⟩
end AnyM
end
end Go.Proofs.YtnhcggfbkoppnaaGreat
