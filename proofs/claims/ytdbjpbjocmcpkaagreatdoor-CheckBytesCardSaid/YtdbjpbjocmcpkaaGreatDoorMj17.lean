import Derived.Test.YtdbjpbjocmcpkaaGreatDoorMj16
import Derived.Shelf.SlGeneric
import Derived.Shelf.SlSortCmp.WholeK
import Derived.Ground.SlsfProg
set_option maxHeartbeats 8000000
set_option maxRecDepth 100000
namespace Go.Proofs.YtdbjpbjocmcpkaaGreatDoor
section
open Go.Proofs.Tryz
open Go.RowKit Go.Sort Go.Maps
theorem ni {H:Type} {P:Program} {k:TypeId} {R:Value->Option (DataW H×List MemPlace)} {w w':World} {b n:Nat} {D:DataW H} (h:w.ownsMap P k R b n D) (hb:Below w.heap.size w w'):w'.ownsMap P k R b n D:=by
 have hlt:=h.lt;obtain⟨es,clock,hh,r⟩:=h;exact⟨es,clock,(hb.block b hlt).trans hh,r⟩
theorem dw.norm {p:Int×Int} (h:dw p):dw (Si.norm p):=by
 unfold dw Si.norm at*;dsimp only;omega
def Bz (ps:List (Int×Int)) (w:World) (e:Ending) (w':World):Prop:=
 ∃(D:DataW Unit) (k:Nat) (l:List (Int×Int)),l=Si.made [] (ps.take k)/\k<=ps.length/\(k=ps.length\/4194304<l.length)/\e= .returned (.map (some w.heap.size))/\fV D (fun e=>e∈l) l.length/\w'.ownsMap prog 66 unitElem w.heap.size k D/\Below w.heap.size w w'
theorem fV.more {D:DataW Unit} {l:List (Int×Int)} (h:fV D (fun e=>e∈l) l.length) (hs:l.Pairwise Si.lt) {e:Int×Int} (he:dw e) (u:DataW Unit):
 fV (D.put (l5 e) u) (fun x=>x∈Si.put l e) (Si.put l e).length:=by
 have h1:=h.put he u;have e1:(if Maps.has D (l5 e)=true then l.length else l.length+1)=(Si.put l e).length:=by
  rw[Si.KA l e hs];by_cases hm:e∈l
  .rw[if_pos ((h.has e he).2 hm),if_pos hm]
  .rw[if_neg (fun k=>hm ((h.has e he).1 k)),if_neg hm]
 rw[e1] at h1;refine h1.congr fun x _=> ?_
 rw[Si.xK];exact or_comm
theorem Il (ao:Option Addr) (cap:Nat) (ps:List (Int×Int)) (w:World) (he:ah w ao ps) (hl:ps.length<=140737488355328) (hin:∀(j:Nat) (p:Int×Int),ps[j]? =some p->dw p):
 Calls prog 70 #[.slice ao ps.length cap] w (Bz ps w):=by
 have hmm:= @run_makeMap prog;have HE:=ζ he;have o7:=ζ hin;clear he hin;unfold Bz;go_enter func70,ntmps70;go_wp2;clear hmm;go_loopw [9] (fun c wr=>∃(k:Nat) (D:DataW Unit) (l:List (Int×Int)),l=Si.made [] (ps.take k)/\k<=ps.length/\c= .int .i64 k/\wr.ownsMap prog 66 unitElem w.heap.size k D/\fV D (fun e=>e∈l) l.length/\l.length<=4194304/\Below w.heap.size w wr) (fun c _=>ps.length-(intOf c).toNat)
 case atStart=>exact⟨0,.map [],[],by simp[Si.made],aaR _,rfl,adZ _ _ _ _,fV.start.congr fun e _=>by simp,aaR _,(aaG _ _).alloc (aaF _) _⟩
 case round=>
  obtain⟨k,D,l,hl0,hk,rfl,hown,jH,bV,hb⟩:=hrel;have hsz:=hb.size;have hml:=hown.lt;by_cases hlt:k<ps.length
  .have aP:(k:Int)<(ps.length:Int):=by omega
   have hk0:(0:Int)<=(k:Int):=by omega
   obtain⟨p,hp⟩:∃p,ps[k]? =some p:=⟨_,aaE hlt⟩;obtain⟨b,o,rfl,c0,c1⟩:=(HE.out.later hb) k p hp;have hbl:b<wr.heap.size:=block_lt_of_cell c0;have wj:Si.made [] (ps.take (k+1))=if p.1=p.2 then l else Si.put l (Si.norm p):=by rw[Si.fR hp,Si.De,<-hl0]
   have Dy:=(o7.out k p hp).norm;have UM:l.Pairwise Si.lt:=by rw[hl0];exact Si.xL _
   have bK:=ζ hown;have rF:=ζ jH;have HB:=ζ hb;have tK:=ζ hl0;have HSO:=ζ UM;obtain⟨u,v⟩:=p;dsimp only at c0 c1 wj;clear hown jH hb hl0 hp UM;by_cases hpe:u=v
   .rw[if_pos hpe] at wj
    subst hpe;have Nc:=ζ wj;have hD:(Maps.size D:Int)<=4194304:=by rw[rF.out.size];omega
    clear wj;go_wp2_with (at_len;refine wpList_len_own _ rfl _ _ rfl 66 189 Tryz.underlying130 (unitElem (H:=Unit)) w.heap.size k D rfl (ab7 bK.out _) ?_);go_roundw
    case rel=>exact⟨k+1,D,l,Nc.out.symm,by omega,by go_num,(ab7 bK.out _).mono (Nat.le_succ _),rF.out,bV,HB.out.alloc hsz _⟩
    case measure=>simp[intOf];omega
   .rw[if_neg hpe] at wj
    have Nc:=ζ wj;have oM:=fun W=>CO (u,v) W
    have uM:=om Dy;have hmo:=rF.out.more HSO.out Dy (.agg []);unfold cM at oM uM;dsimp only at oM;have BW:=ζ oM;have F8:=ζ uM;have WM:=ζ hmo;clear wj oM uM hmo;go_wp2_with (go_at_call 110;refine(BW.out _).mono ?_;rintro e w1 ⟨rfl,hgr⟩;refine aaI ?_);refine ζ ?_;have hb1:Below wr.heap.size wr w1:=by
     obtain⟨q,os',rfl⟩:=hgr;exact((aaG _ _).alloc (aaF _) _).trans ((lz _ q os').mono (by simp))
    have PJ:=ζ (ni bK.out hb1);have aD:=ζ (HB.out.trans (hb1.mono hsz));have hs1:w.heap.size<=w1.heap.size:=aD.out.size;clear hb1 hgr c0 c1;go_wp2_with (at_mapUpdate;refine wpList_mapUpdate_own _ rfl _ _ _ 130 rfl 66 189 sA Tryz.underlying130 (unitElem (H:=Unit)) w.heap.size k _ rfl PJ.out (by unfold maxLen;omega) _ _ _ rfl rfl F8.out _ [] unitElem_mk ?_;refine aaI ?_);refine ζ ?_;intro w2 hown2 hg2;generalize (D.put (l5 (Si.norm (u,v))) (.agg []))=D' at WM hown2;have q8:=ζ hown2;have aA:=ζ (aD.out.grown hg2 hs1 (fun j hj=>by cases hj;exact aaF _));clear hown2 hg2;by_cases hbig:(Si.put l (Si.norm (u,v))).length<=4194304
    .have hD:(Maps.size D':Int)<=4194304:=by rw[WM.out.size];omega
     go_wp2_with (at_len;refine wpList_len_own _ rfl _ _ rfl 66 189 Tryz.underlying130 (unitElem (H:=Unit)) w.heap.size (k+1) D' rfl q8.out ?_);go_roundw
     case rel=>exact⟨k+1,D',_,Nc.out.symm,by omega,by go_num,q8.out,WM.out,hbig,aA.out⟩
     case measure=>simp[intOf];omega
    .have hD:(4194304:Int)<(Maps.size D':Int):=by rw[WM.out.size];omega
     go_wp2_with (at_len;refine wpList_len_own _ rfl _ _ rfl 66 189 Tryz.underlying130 (unitElem (H:=Unit)) w.heap.size (k+1) D' rfl q8.out ?_);go_ret;exact⟨D',k+1,_,Nc.out.symm,by omega,.inr (by omega),rfl,WM.out,q8.out,aA.out⟩
  .obtain rfl:k=ps.length:=by omega
   have bK:=ζ hown;have rF:=ζ jH;have HB:=ζ hb;have tK:=ζ hl0;clear hown jH hb hl0;go_wp2;go_ret;exact⟨D,ps.length,l,tK.out,aaF _,.inl rfl,rfl,rF.out,bK.out,HB.out⟩
end
section
open Go.Proofs.Tryz
open Go.RowKit Go.Sort Go.Maps
def Ht (l0 ps:List (Int×Int)) (B:Nat) (w0:World) (e:Ending) (w':World):Prop:=
 ∃(g cap:Nat) (acc:List (Int×Int)),e= .returned (.slice (some ⟨g,0,none⟩) acc.length cap)/\Si.Taken l0 ps ps.length acc/\acc.length<=l0.length/\aW w' B (.slice (some ⟨g,0,none⟩) acc.length cap) acc/\Below w0.heap.size w0 w'
theorem Ri (mb nb:Nat) (D:DataW Unit) (l0:List (Int×Int)) (ao:Option Addr) (cap:Nat) (ps:List (Int×Int)) (w0 w:World) (he:ah w0 ao ps) (hb0:Below w0.heap.size w0 w) (hmb:w0.heap.size<=mb) (hl:ps.length<=140737488355328)
 (hin:∀(j:Nat) (p:Int×Int),ps[j]? =some p->dw p) (hown:w.ownsMap prog 66 unitElem mb nb D) (jH:fV D (fun e=>e∈l0) l0.length) (hl0:l0.length<=4194304):
 Calls prog 71 #[.map (some mb),.slice ao ps.length cap] w (Ht l0 ps w.heap.size w0):=by
 obtain⟨i0,hi,hz0,hz1,hz2⟩:=info_parts Tryz.zP;have HE:=ζ he;have o7:=ζ hin;have aI:=ζ hb0;have WH:=ζ hown;have acR:=ζ jH;have Zw:=hown.lt;have hw0:w0.heap.size<=w.heap.size:=hb0.size;have hD:(Maps.size D:Int)=(l0.length:Int):=by rw[jH.size]
 clear he hin hb0 hown jH;unfold Ht;go_enter func71,ntmps71
 go_wp2_with (first
  |(at_len;refine wpList_len_own _ rfl _ _ rfl 66 189 Tryz.underlying130 (unitElem (H:=Unit)) mb nb D rfl WH.out ?_)
  |(at_make;refine wpList_make_own _ rfl _ _ 22 rfl w.heap.size 66 i0 (.agg #[.int .i64 0,.int .i64 0]) 2 Tryz.underlying22 hi hz0 hz1 _ _ _ l0.length rfl rfl hD (by rw[hz2];omega) (by unfold maxLen;omega) (aaF _) ?_;refine aaI ?_))
 refine ζ ?_;intro w1 UU hg1;have tH:Hid (aW w1 w.heap.size (.slice (some ⟨w.heap.size,0,none⟩) 0 l0.length) []):=UU;have hb1:Below w.heap.size w w1:=(aaG _ _).grown hg1 (aaF _) (fun j hj=>by cases hj);have aD:=ζ (aI.out.trans (hb1.mono hw0));have PJ:=ζ (ni WH.out hb1);have hsw:w.heap.size<=w1.heap.size:=hb1.size;clear UU hg1 hb1 hD;go_wp2;go_loopw [5,16] (fun v c wr=>∃(k n:Nat) (acc:List (Int×Int)) (D:DataW Unit),k<=ps.length/\c= .int .i64 k/\Si.Taken l0 ps k acc/\n+acc.length=l0.length/\fV D (fun e=>e∈l0/\e∉acc) n/\wr.ownsMap prog 66 unitElem mb nb D/\aW wr w.heap.size v acc/\v≠.slice none 0 0/\Below w0.heap.size w0 wr/\w.heap.size<=wr.heap.size) (fun _ c _=>ps.length-(intOf c).toNat)
 case atStart=>exact⟨0,l0.length,[],D,aaR _,rfl,Si.Taken.start _ _,by simp,acR.out.congr fun e _=>by simp,PJ.out,tH.out,by simp,aD.out,hsw⟩
 case round=>
  obtain⟨k,n,acc,D,hk,rfl,htk,hna,jH,hown,hrow,hnn,hb,hsz⟩:=hrel;have jP:=ζ hrow;have JG:=ζ htk;have rF:=ζ jH;have bK:=ζ hown;have HB:=ζ hb;by_cases hlt:k<ps.length
  .have aP:(k:Int)<(ps.length:Int):=by omega
   have hk0:(0:Int)<=(k:Int):=by omega
   obtain⟨p,hp⟩:∃p,ps[k]? =some p:=⟨_,aaE hlt⟩;obtain⟨b,o,rfl,c0,c1⟩:=(HE.out.later hb) k p hp;have hbl:b<wr.heap.size:=block_lt_of_cell c0;have Dy:=(o7.out k p hp).norm;have uM:=om Dy;have oM:=fun W=>CO p W
   unfold cM at uM oM;have F8:=ζ uM;have BW:=ζ oM;have HP:=ζ hp;have hhas:=jH.has _ Dy;have HNN:=ζ hnn;clear hrow htk jH hown hb hp uM oM hnn;generalize hq:Si.norm p=q at F8 BW Dy hhas;have HQ:=ζ hq;clear hq;go_wp2_with (go_at_call 110;refine(BW.out _).mono ?_;rintro e w2 ⟨rfl,hgr⟩;refine aaI ?_);refine ζ ?_;have hb2:Below wr.heap.size wr w2:=by
    obtain⟨qn,os',rfl⟩:=hgr;exact((aaG _ _).alloc (aaF _) _).trans ((lz _ qn os').mono (by simp))
   have hs2:wr.heap.size<=w2.heap.size:=hb2.size;have q8:=ζ (ni bK.out hb2);have eC:=ζ (jP.out.below hb2 (aaF _));have aA:=ζ (HB.out.trans (hb2.mono HB.out.size));have Zt:w0.heap.size<=w2.heap.size:=aA.out.size;clear hb2 hgr c0 c1;cases hh:Maps.has D (l5 q) with
   |false=>
    have hno:¬(q∈l0/\q∉acc):=fun h=>by rw[hhas.2 h] at hh;cases hh
    go_wp2_with (at_lookup;refine wpList_lookup_own_unit _ rfl _ _ 130 rfl 66 189 sA Tryz.underlying130 (Gd _) mb nb D rfl (ab7 q8.out _) _ _ rfl F8.out ?_);go_roundw
    case rel=>exact⟨k+1,n,acc,D,by omega,by go_num,JG.out.old HP.out (by rw[HQ.out];exact hno),hna,rF.out,ab7 (ab7 q8.out _) _,(eC.out.alloc _).alloc _,HNN.out,(aA.out.alloc Zt _).alloc (by simp;omega) _,by simp;omega⟩
    case measure=>simp[intOf];omega
   |true=>
    have hyes:=hhas.1 hh;obtain⟨m,hnm,qE⟩:=rF.out.del Dy hyes;have iA:=ζ qE;clear qE hhas
    go_wp2_with (first
     |(at_lookup;refine wpList_lookup_own_unit _ rfl _ _ 130 rfl 66 189 sA Tryz.underlying130 (Gd _) mb nb D rfl (ab7 q8.out _) _ _ rfl F8.out ?_)
     |(at_delete;refine wpList_delete_own _ rfl _ _ 130 66 rfl 189 sA Tryz.underlying130 (unitElem (H:=Unit)) mb nb D rfl (ab7 (ab7 q8.out _) _) _ _ rfl F8.out ?_;refine aaI ?_))
    refine ζ ?_;intro w3 qF hturn;have hg3:=hturn.grown;have hne:w2.heap.size≠mb:=by omega
    have hE3:w3.heap[w2.heap.size]? =some (.cells #[.int .i64 q.1,.int .i64 q.2] 66 (0,0)):=by
     rw[hg3.block _ (by simp;omega) (by simpa using hne),aa0 _ _ _ (by simp)];exact heap_alloc_new w2 _
    obtain⟨e0,e1,-⟩:=af hE3;have hs3:w2.heap.size+2<=w3.heap.size:=by have:=hg3.size;simpa using this
    have fK:Hid (aW w3 w.heap.size _ acc):=World.ownsRow.kept ((eC.out.alloc _).alloc _) hg3 (.inr (eC.out.far Zw));have aK:=ζ (((aA.out.alloc Zt _).alloc (by simp;omega) _).grown hg3 (by simp;omega) (fun j hj=>by cases hj;exact hmb));have ac0:=ζ qF;clear qF hturn hg3 hE3;have hla:acc.length<=l0.length:=by omega
    go_wp2_with (at_builtin;refine wpList_append_own _ rfl _ _ 22 rfl w.heap.size 66 i0 (.agg #[.int .i64 0,.int .i64 0]) 2 16 Tryz.underlying22 hi hz0 hz1 hz2 rfl (by decide) _ _ _ rfl (abv fK.out _) ⟨w3.heap.size,0,none⟩ 1 1 [.int .i64 q.1,.int .i64 q.2] rfl rfl (qx _ _ rfl _ _ _) (by simp[Value.oneCell']) (by unfold maxLen;omega) (by omega) (by simp;omega) ?_;refine aaI ?_);refine ζ ?_;intro v' w4 hrow4 hg4 hnil;have Ac:Hid (aW w4 w.heap.size v' (acc++[q])):=by
     unfold aW;rw[oz,aaZ];exact hrow4
    have hs4:w3.heap.size+1<=w4.heap.size:=by have:=hg4.size;simpa using this
    have cZ:=ζ ((aK.out.alloc aK.out.size _).grown hg4 (by have:=aK.out.size;simp;omega) (fun j hj=>by have:=(aaO fK.out j hj).1;omega));have acZ:=ζ ((ab7 ac0.out _).kept hg4 (fun h=>fK.out.far Zw h.symm));have agA:Hid (v'≠.slice none 0 0):=hnil;clear hrow4 hg4 hnil e0 e1;go_wp2;go_roundw
    case rel=>exact⟨k+1,m,acc++[q],_,by omega,by go_num,by have:=JG.out.new HP.out (by rw[HQ.out];exact hyes.1) (by rw[HQ.out];exact hyes.2);rwa[HQ.out] at this,by simp;omega,iA.out.congr (fun e _=>by simp[and_assoc]),acZ.out,Ac.out,agA.out,cZ.out,by omega⟩
    case measure=>simp[intOf];omega
  .obtain rfl:k=ps.length:=by omega
   obtain⟨g,cp,rfl⟩:=jP.out.some hnn;clear hrow htk jH hown hb;go_wp2;go_ret;exact⟨g,cp,acc,rfl,JG.out,by omega,jP.out,HB.out⟩
end
end Go.Proofs.YtdbjpbjocmcpkaaGreatDoor
namespace Go.Proofs
open Go.Shelf
def Tryz.CH:Go.Shelf.Ren:=⟨fun|6=>72|15=>112|14=>111|28=>165|29=>166|20=>157|21=>158|22=>159|23=>160|24=>161|25=>162|26=>163|27=>164|46=>221|47=>222|48=>223|49=>224|50=>225|57=>265|n=>n,fun|22=>22|24=>66|25=>134|3=>3|39=>194|0=>0|53=>267|55=>269|4=>4|46=>260|45=>259|50=>264|5=>5|9=>9|66=>323|70=>327|76=>360|77=>105|n=>n,fun|n=>n⟩
theorem Tryz.NK:Go.Proofs.SlLaysF0.n6 Tryz.prog Tryz.CH:={
 mixed:=by kernel_rfl
 f6:=⟨Tryz.f72.name,by decide,Tryz.func72.trans (congrArg some (by kernel_rfl))⟩
 f14:=⟨Tryz.f111.name,by decide,Tryz.func111.trans (congrArg some (by kernel_rfl))⟩
 f15:=Tryz.func112.trans (congrArg some (by kernel_rfl))
 f20:=⟨Tryz.f157.name,by decide,Tryz.func157.trans (congrArg some (by kernel_rfl))⟩
 f21:=⟨Tryz.f158.name,by decide,Tryz.func158.trans (congrArg some (by kernel_rfl))⟩
 f22:=⟨Tryz.f159.name,by decide,Tryz.func159.trans (congrArg some (by kernel_rfl))⟩
 f23:=⟨Tryz.f160.name,by decide,Tryz.func160.trans (congrArg some (by kernel_rfl))⟩
 f24:=⟨Tryz.f161.name,by decide,Tryz.func161.trans (congrArg some (by kernel_rfl))⟩
 f25:=⟨Tryz.f162.name,by decide,Tryz.func162.trans (congrArg some (by kernel_rfl))⟩
 f26:=⟨Tryz.f163.name,by decide,Tryz.func163.trans (congrArg some (by kernel_rfl))⟩
 f27:=⟨Tryz.f164.name,by decide,Tryz.func164.trans (congrArg some (by kernel_rfl))⟩
 f28:=Tryz.func165.trans (congrArg some (by kernel_rfl))
 f29:=Tryz.func166.trans (congrArg some (by kernel_rfl))
 f46:=⟨Tryz.f221.name,by decide,Tryz.func221.trans (congrArg some (by kernel_rfl))⟩
 f47:=Tryz.func222.trans (congrArg some (by kernel_rfl))
 f48:=Tryz.func223.trans (congrArg some (by kernel_rfl))
 f49:=⟨Tryz.f224.name,by decide,Tryz.func224.trans (congrArg some (by kernel_rfl))⟩
 f50:=⟨Tryz.f225.name,by decide,Tryz.func225.trans (congrArg some (by kernel_rfl))⟩
 f57:=⟨Tryz.f265.name,by decide,Tryz.func265.trans (congrArg some (by kernel_rfl))⟩
 t0:=Tryz.underlying0
 a0:=Tryz.isAgg0
 z0:=Tryz.sizeOf0
 v0:=Tryz.zeroValue0
 t3:=Tryz.underlying3
 a3:=Tryz.isAgg3
 z3:=Tryz.sizeOf3
 v3:=Tryz.zeroValue3
 t4:=Tryz.underlying4
 a4:=Tryz.isAgg4
 z4:=Tryz.sizeOf4
 v4:=Tryz.zeroValue4
 t5:=Tryz.underlying5
 a5:=Tryz.isAgg5
 z5:=Tryz.sizeOf5
 v5:=Tryz.zeroValue5
 t9:=Tryz.underlying9
 a9:=Tryz.isAgg9
 z9:=Tryz.sizeOf9
 v9:=Tryz.zeroValue9
 t22:=Tryz.underlying22
 a22:=Tryz.isAgg22
 z22:=Tryz.sizeOf22
 v22:=Tryz.zeroValue22
 t25:=Tryz.underlying134
 a25:=Tryz.isAgg134
 z25:=Tryz.sizeOf134
 v25:=Tryz.zeroValue134
 t39:=Tryz.underlying194
 a39:=Tryz.isAgg194
 z39:=Tryz.sizeOf194
 v39:=Tryz.zeroValue194
 t45:=Tryz.underlying259
 a45:=Tryz.isAgg259
 z45:=Tryz.sizeOf259
 v45:=Tryz.zeroValue259
 t46:=Tryz.underlying260
 a46:=Tryz.isAgg260
 z46:=Tryz.sizeOf260
 v46:=Tryz.zeroValue260
 t50:=Tryz.underlying264
 a50:=Tryz.isAgg264
 z50:=Tryz.sizeOf264
 v50:=Tryz.zeroValue264
 t53:=Tryz.underlying267
 a53:=Tryz.isAgg267
 z53:=Tryz.sizeOf267
 v53:=Tryz.zeroValue267
 t55:=Tryz.underlying269
 a55:=Tryz.isAgg269
 z55:=Tryz.sizeOf269
 v55:=Tryz.zeroValue269
 t66:=Tryz.underlying323
 a66:=Tryz.isAgg323
 z66:=Tryz.sizeOf323
 v66:=Tryz.zeroValue323
 t70:=Tryz.underlying327
 a70:=Tryz.isAgg327
 z70:=Tryz.sizeOf327
 v70:=Tryz.zeroValue327
 t76:=Tryz.underlying360
 a76:=Tryz.isAgg360
 z76:=Tryz.sizeOf360
 v76:=Tryz.zeroValue360
 t77:=Tryz.underlying105
 a77:=Tryz.isAgg105
 z77:=Tryz.sizeOf105
 v77:=Tryz.zeroValue105 }
end Go.Proofs
namespace Go.Proofs.YtdbjpbjocmcpkaaGreatDoor
section
open Go.Proofs.Tryz
open Go.RowKit Go.Sort Go.Shelf
def pV (x:Int×Int):List Value:=[.int .i64 x.1,.int .i64 x.2]
theorem SV (l:List (Int×Int)) (j:Nat) (p:Int×Int) (h:l[j]? =some p):(flatK pV 2 l.toArray)[j*2]! = .int .i64 p.1/\(flatK pV 2 l.toArray)[j*2+1]! = .int .i64 p.2:=by
 have hl:j<l.length:=(aaH.1 h).1;have e1:l.toArray[j]! =p:=by
  rw[getElem!_pos l.toArray j (by simpa using hl)];rw[aaE hl] at h;cases h;simp
 constructor
 .rw[get_flatK _ _ _ _ (by simp;omega),show j*2/2=j by omega,show j*2%2=0 by omega,e1]
  rfl
 .rw[get_flatK _ _ _ _ (by simp;omega),show(j*2+1)/2=j by omega,show(j*2+1)%2=1 by omega,e1]
  rfl
theorem ym (l:List (Int×Int)):(flatK pV 2 l.toArray).toList=gB l:=by
 refine ab0 fun t=> ?_
 by_cases ht:t<l.length*2
 .have hs:t<(flatK pV 2 l.toArray).size:=by simpa using ht
  have hj:t/2<l.length:=by omega
  have hp:l[t/2]? =some l[t/2]:=aaE hj;have h1:=SV l (t/2) _ hp;have h2:=mO l (t/2) _ hp;have e:(flatK pV 2 l.toArray).toList[t]? =some (flatK pV 2 l.toArray)[t]! :=by
   rw[getElem!_pos _ t hs];simp
  rw[e];rcases(show t=t/2*2\/t=t/2*2+1 by omega) with h|h
  .rw[h,h1.1,h2.1]
  .rw[h,h1.2,h2.2]
 .rw[aa6 (by simp;omega),aa6 (by rw[oQ];omega)]
theorem Yc {w:World} {g:Nat} {cur:Array Value} {e:TypeId} {l:List (Int×Int)} (hb:w.heap[g]? =some (.cells cur e (0,0))) (ht:cur.toList.take (l.length*2)=gB l):HoldsK pV 2 w g 0 l.toArray:=by
 intro j hj;have hj':j<l.length*2:=by simpa using hj
 refine⟨?_,by simp[World.frozen?,hb]⟩;have h1:(cur.toList.take (l.length*2))[j]? =(flatK pV 2 l.toArray).toList[j]? :=by rw[ht,ym]
 rw[List.getElem?_take_of_lt hj'] at h1;simp only[World.cell?,hb,abK];rw[getElem!_pos _ j hj];rw[<-Array.getElem?_toList,h1];simp
theorem FH {w:World} {g n:Nat} {os:Array Obj} {cur:Array Value} {e:TypeId} {fr:Nat×Nat} (F:Array Value) (hb:w.heap[g]? =some (.cells cur e fr)):
 (grow (putRow id (Sort.ahead w n) g 0 F) os).heap[g]? =some (.cells (putCells id 0 F cur) e fr):=by
 have hlt:g<w.heap.size:=(abX.1 hb).1;have h:(putRow id (Sort.ahead w n) g 0 F).heap[g]? =some (.cells (putCells id 0 F cur) e fr):=by
  simp[putRow,mapBlock,Array.getElem?_modify,Sort.ahead,hb,onCells]
 show((putRow id (Sort.ahead w n) g 0 F).heap++os)[g]? =_;rw[acN (by simpa using hlt)];exact h
theorem zT {w:World} {g n:Nat} {os:Array Obj} (F:Array Value):w.grownBy (grow (putRow id (Sort.ahead w n) g 0 F) os) (some g):=by
 refine⟨rfl,rfl,rfl,by simp[grow,Sort.ahead],fun i hi hne=> ?_⟩;show((putRow id (Sort.ahead w n) g 0 F).heap++os)[i]? =_;rw[acN (by simpa[Sort.ahead] using hi)];have:g≠i:=fun h=>hne (by rw[h])
 simp[putRow,mapBlock,Array.getElem?_modify,Sort.ahead,this]
theorem BG (cur F:Array Value) (h:F.size<=cur.size):(putCells id 0 F cur).toList.take F.size=F.toList:=by
 refine ab0 fun j=> ?_
 by_cases hj:j<F.size
 .rw[List.getElem?_take_of_lt hj]
  have hc:j<cur.size:=by omega
  simp[putCells,hj,hc]
 .rw[aa6 (by simp;omega),aa6 (by simp;omega)]
theorem XT (x y:Int×Int):ltOf Si.cf x y=decide (Si.lt x y):=by
 unfold ltOf;by_cases h:Si.lt x y
 .simp[h,Si.Ch.2 h]
 .have:¬(Si.cf x y<0):=fun k=>h (Si.Ch.1 k)
  simp[h,this]
theorem adQ:SWO (ltOf Si.cf) where
 irrefl x:=by rw[XT];simp[Si.lt_irrefl]
 trans x y z h1 h2:=by
  rw[XT] at*;simp at*;exact Si.lt_trans h1 h2
 ntrans x y z h1 h2:=by
  rw[XT] at*;simp at*;unfold Si.lt at*;omega
def Tg (B g cap:Nat) (acc:List (Int×Int)) (w:World) (e:Ending) (w':World):Prop:=
 e= .returned (.tuple #[])/\∃l:List (Int×Int),l.length=acc.length/\l.Perm acc/\(∀(i j:Nat) (a b:Int×Int),i<j->l[i]? =some a->l[j]? =some b->¬Si.lt b a)/\aW w' B (.slice (some ⟨g,0,none⟩) acc.length cap) l/\w.grownBy w' (some g)
theorem Rj (B g cap:Nat) (acc:List (Int×Int)) (w:World) (hrow:aW w B (.slice (some ⟨g,0,none⟩) acc.length cap) acc) (hl:acc.length<4611686018427387904):
 Calls prog 72 #[.slice (some ⟨g,0,none⟩) acc.length cap,.func (.func 73) #[] #[]] w (Tg B g cap acc w):=by
 rcases hrow.2 with ⟨h,_⟩|⟨g',cap',cur,e,hg,hh,hc,hm,hs,ht⟩
 .cases h
 cases e;have eg:∀args w,(callFunc 73 args).run prog w= .ok (.enter 73 args) w:=enters_of func73 (by kernel_rfl) rfl;have hcmp:CmpLays prog 73 #[] pV 2 Si.cf g 0 acc.toArray.size w:=fun _ _ _ _ x y=>yA x y _
 have hcon:=AnyQ.slices_SortFunc Tryz.NK 2 Tryz.isAgg66 Tryz.sizeOf66 pV (fun _=>rfl) (fun x v hv=>by simp[pV] at hv;rcases hv with rfl|rfl<;>rfl) Si.cf adQ 73 #[] g 0 cap acc.toArray w eg hcmp (Yc hh ht) (lt_of_block hh) (by simpa using hl);change Calls prog 72 _ _ _ at hcon;have e1:acc.toArray.size=acc.length:=by simp
 rw[e1] at hcon;refine hcon.mono ?_;rintro e w' ⟨rfl,d',n,os,hp,qE,rfl⟩;have hsz:d'.size=acc.length:=hp.1.trans e1;have hd:d'.toList.toArray=d':=by simp
 refine⟨rfl,d'.toList,by simpa using hsz,?_,?_,?_,?_⟩
 .have h3:=hp.2.2
  have e2:(d'.extract 0 acc.length).toList=d'.toList:=by
   rw[<-hsz];simp
  have e3:(acc.toArray.extract 0 acc.length).toList=acc:=by simp
  rw[e2,e3] at h3;exact h3
 .intro i j a b hij ha hb
  obtain⟨hi,ea⟩:=aaH.1 ha;obtain⟨hj,eb⟩:=aaH.1 hb;have hj':j<d'.size:=by simpa using hj
  have:=qE i j (aaR _) hij (by omega);rw[XT,getElem!_pos d' j hj',getElem!_pos d' i (by omega)] at this;simp at ea eb;rw[ea,eb] at this;simpa using this
 .unfold sortWorldK putRowK
  have e4:d'.toList.length=acc.length:=by rw[adX,hsz]
  refine⟨by rw[oQ],.inr ⟨g,cap,_,by rw[e4],hg,FH _ hh,by rw[e4];exact hc,hm,by simp[putCells,hs],?_⟩⟩;have h1:=BG cur (flatK pV 2 d') (by rw[size_flatK,hsz,hs];omega);have h2:(flatK pV 2 d').toList=gB d'.toList:=by have:=ym d'.toList;rwa[hd] at this
  rw[h2] at h1;rw[size_flatK] at h1;rw[adX];exact h1
 .exact zT _
end
section
open Go.RowKit Go.Sort
def Si.fk (n:Int) (p:Int×Int):Prop:=(0<=p.1/\p.1<n)/\0<=p.2/\p.2<n
instance (n:Int) (p:Int×Int):Decidable (Si.fk n p):=by unfold Si.fk;infer_instance
def Si.inside (n:Int) (ps:List (Int×Int)):Bool:=ps.all fun p=>decide (Si.fk n p)
theorem Si.kF {n:Int} {ps:List (Int×Int)} {k:Nat} {p:Int×Int} (h:ps[k]? =some p) (hp:¬Si.fk n p):Si.inside n ps=false:=by
 unfold Si.inside;rw[List.all_eq_false];exact⟨p,aaJ h,by simpa using hp⟩
theorem Si.A6 {n:Int} {ps:List (Int×Int)} (h:∀(j:Nat) (p:Int×Int),ps[j]? =some p->Si.fk n p):Si.inside n ps=true:=by
 unfold Si.inside;rw[abH];intro p hp;obtain⟨j,hj,e⟩:=abf.1 hp;simpa using h j p (by rw[<-e];exact aaE hj)
theorem Si.Oz {n:Int} {ps:List (Int×Int)} (h:Si.inside n ps=true) {j:Nat} {p:Int×Int} (hj:ps[j]? =some p):Si.fk n p:=by
 unfold Si.inside at h;rw[abH] at h;simpa using h p (aaJ hj)
def Si.mk (n:Int) (ps:List (Int×Int)):Int×List (Int×Int)×Int:=
 if n<0\/1048576<n\/Si.inside n ps=false then (0,[],2) else if 4194304<(Si.made [] ps).length then (0,[],141) else (n,Si.made [] ps,0)
end
section
open Go.RowKit Go.Sort
theorem JX (n:Int) (ao:Option Addr) (cap:Nat) (ps:List (Int×Int)) (w:World) (he:ah w ao ps) (hl:ps.length<=4611686018427387904):
 Calls Tryz.prog 69 #[.int .i64 n,.slice ao ps.length cap] w fun e w'=>e= .returned (.bool (Si.inside n ps))/\Below w.heap.size w w':=by
 have HE:=ζ he;clear he;go_enter Tryz.func69,Tryz.ntmps69;go_wp2;go_loopw [9] (fun c wr=>∃k:Nat,k<=ps.length/\c= .int .i64 k/\(∀(j:Nat) (p:Int×Int),j<k->ps[j]? =some p->Si.fk n p)/\Below w.heap.size w wr) (fun c _=>ps.length-(intOf c).toNat)
 case atStart=>exact⟨0,aaR _,rfl,fun j p h=>by omega,aaG _ _⟩
 case round=>
  obtain⟨k,hk,rfl,hin,hb⟩:=hrel;have hsz:=hb.size;by_cases hlt:k<ps.length
  .have aP:(k:Int)<(ps.length:Int):=by omega
   have hk0:(0:Int)<=(k:Int):=by omega
   obtain⟨p,hp⟩:∃p,ps[k]? =some p:=⟨_,aaE hlt⟩;obtain⟨b,o,rfl,c0,c1⟩:=(HE.out.later hb) k p hp;have hbl:b<wr.heap.size:=block_lt_of_cell c0;have o7:=ζ hin;have HP:=ζ hp;have HB:=ζ hb;clear hin hp hb;rcases aer p.2 p.1 with h|h
   .have h':¬(p.1<p.2):=by omega
    by_cases a1:p.2<0
    .have hv:=Si.kF HP.out (n:=n) (by unfold Si.fk;omega)
     go_wp2;go_ret;exact⟨by first|rfl|exact congrArg (fun b=>Ending.returned (.bool b)) hv.symm,HB.out.alloc hsz _⟩
    .by_cases a2:p.1<n
     .go_wp2
      go_roundw
      case rel=>
       refine⟨k+1,by omega,by go_num,fun j q hj hq=> ?_,HB.out.alloc hsz _⟩;by_cases hjk:j=k
       .subst hjk;rw[HP.out] at hq;cases hq;unfold Si.fk;omega
       .exact o7.out j q (by omega) hq
      case measure=>simp[intOf];omega
     .have hv:=Si.kF HP.out (n:=n) (by unfold Si.fk;omega)
      go_wp2;go_ret;exact⟨by first|rfl|exact congrArg (fun b=>Ending.returned (.bool b)) hv.symm,HB.out.alloc hsz _⟩
   .rcases aer p.1 p.2 with h'|h'
    .have h'':¬(p.2<p.1):=by omega
     by_cases a1:p.1<0
     .have hv:=Si.kF HP.out (n:=n) (by unfold Si.fk;omega)
      go_wp2;go_ret;exact⟨by first|rfl|exact congrArg (fun b=>Ending.returned (.bool b)) hv.symm,HB.out.alloc hsz _⟩
     .by_cases a2:p.2<n
      .go_wp2
       go_roundw
       case rel=>
        refine⟨k+1,by omega,by go_num,fun j q hj hq=> ?_,HB.out.alloc hsz _⟩;by_cases hjk:j=k
        .subst hjk;rw[HP.out] at hq;cases hq;unfold Si.fk;omega
        .exact o7.out j q (by omega) hq
       case measure=>simp[intOf];omega
      .have hv:=Si.kF HP.out (n:=n) (by unfold Si.fk;omega)
       go_wp2;go_ret;exact⟨by first|rfl|exact congrArg (fun b=>Ending.returned (.bool b)) hv.symm,HB.out.alloc hsz _⟩
    .have e:p.2=p.1:=by omega
     rw[e] at c1;by_cases a1:p.1<0
     .have hv:=Si.kF HP.out (n:=n) (by unfold Si.fk;omega)
      go_wp2;go_ret;exact⟨by first|rfl|exact congrArg (fun b=>Ending.returned (.bool b)) hv.symm,HB.out.alloc hsz _⟩
     .by_cases a2:p.1<n
      .go_wp2
       go_roundw
       case rel=>
        refine⟨k+1,by omega,by go_num,fun j q hj hq=> ?_,HB.out.alloc hsz _⟩;by_cases hjk:j=k
        .subst hjk;rw[HP.out] at hq;cases hq;unfold Si.fk;omega
        .exact o7.out j q (by omega) hq
       case measure=>simp[intOf];omega
      .have hv:=Si.kF HP.out (n:=n) (by unfold Si.fk;omega)
       go_wp2;go_ret;exact⟨by first|rfl|exact congrArg (fun b=>Ending.returned (.bool b)) hv.symm,HB.out.alloc hsz _⟩
  .have hkl:k=ps.length:=by omega
   have hv:=Si.A6 (n:=n) (ps:=ps) (fun j p hj=>hin j p (by rcases abW j ps.length with h'|h';omega;rw[aa6 h'] at hj;cases hj) hj);have HB:=ζ hb;clear hb hin;go_wp2;go_ret;exact⟨by first|rfl|exact congrArg (fun b=>Ending.returned (.bool b)) hv.symm,HB.out⟩
end
section
open Go.Proofs.Tryz
open Go.RowKit Go.Sort Go.Maps
def mP (n:Int) (ps:List (Int×Int)) (w:World) (e:Ending) (w':World):Prop:=
 ∃v,e= .returned (.tuple #[.agg #[.int .i64 (Si.mk n ps).1,v],.int .i64 (Si.mk n ps).2.2])/\aW w' w.heap.size v (Si.mk n ps).2.1/\Below w.heap.size w w'
def acC (r:Int×List (Int×Int)×Int) (w:World) (e:Ending) (w':World):Prop:=
 ∃v,e= .returned (.tuple #[.agg #[.int .i64 r.1,v],.int .i64 r.2.2])/\aW w' w.heap.size v r.2.1/\Below w.heap.size w w'
theorem RT (n:Int) (ao:Option Addr) (cap:Nat) (ps:List (Int×Int)) (w:World) (he:ah w ao ps) (hl:ps.length<=140737488355328):
 Calls prog 35 #[.int .i64 n,.slice ao ps.length cap] w (mP n ps w):=by
 have HE:=ζ he;have hwi:=fun W (hb:Below w.heap.size w W)=>JX n ao cap ps W (he.later hb) (by omega)
 have PD:=ζ hwi;clear he hwi;have ZO:Below w.heap.size w (w.alloc (.cells #[.int .i64 0,.slice none 0 0] 24)):=(aaG _ _).alloc (aaF _) _;have qi:=ζ ZO;clear ZO;by_cases h1:n<0
 .have hm:Si.mk n ps=(0,[],2):=by unfold Si.mk;rw[if_pos (.inl h1)]
  unfold mP;rw[hm];clear hm;go_enter func35,ntmps35;go_wp2;refine bodyPost_ret (v:= .tuple #[.agg #[.int .i64 0,.slice none 0 0],.int .i64 2]) (by simp[results,results35,go_sem]) rfl ?_;exact⟨_,rfl,aW.nil _ _,qi.out⟩
 by_cases h2:1048576<n
 .have hm:Si.mk n ps=(0,[],2):=by unfold Si.mk;rw[if_pos (.inr (.inl h2))]
  unfold mP;rw[hm];clear hm;go_enter func35,ntmps35;go_wp2;refine bodyPost_ret (v:= .tuple #[.agg #[.int .i64 0,.slice none 0 0],.int .i64 2]) (by simp[results,results35,go_sem]) rfl ?_;exact⟨_,rfl,aW.nil _ _,qi.out⟩
 cases hin:Si.inside n ps with
 |false=>
  have hm:Si.mk n ps=(0,[],2):=by unfold Si.mk;rw[if_pos (.inr (.inr hin))]
  unfold mP;rw[hm];rw[hin] at PD;clear hm hin;go_enter func35,ntmps35;go_wp2_with (go_at_call 69;refine(PD.out _ qi.out).mono ?_;rintro e w1 ⟨rfl,hb1⟩;refine aaI ?_);refine ζ ?_;have hG:w1.heap[w.heap.size]? =some (.cells #[.int .i64 0,.slice none 0 0] 24 (0,0)):=(hb1.block _ (by simp)).trans (heap_alloc_new w _);have aD:=ζ (qi.out.trans (hb1.mono qi.out.size));have hs1:=lt_of_block hG;obtain⟨g0,g1,gf⟩:=af hG;have HG:=ζ hG;clear hb1 hG;go_wp2;obtain⟨r0,r1,-⟩:=af (jA HG.out (.int .i64 0) (.slice none 0 0));refine bodyPost_ret (v:= .tuple #[.agg #[.int .i64 0,.slice none 0 0],.int .i64 2]) (by simp[results,results35,go_sem,r0,r1]) rfl ?_;exact⟨_,rfl,aW.nil _ _,(aD.out.setCell (by simp) _).setCell (by simp) _⟩
 |true=>
  have Vk:∀(j:Nat) (p:Int×Int),ps[j]? =some p->dw p:=fun j p hj=>by
   have:=Si.Oz hin hj;unfold Si.fk at this;unfold dw;omega
  have WX:=ζ Vk;rw[hin] at PD;have Nk:=ζ (show Si.mk n ps=_ from by unfold Si.mk;rw[if_neg (by simp[hin];omega)]);have akC:=ζ hin;clear hin Vk;go_enter func35,ntmps35;go_wp2_with (go_at_call 69;refine(PD.out _ qi.out).mono ?_;rintro e w1 ⟨rfl,hb1⟩;refine aaI ?_);refine ζ ?_;have aD:=ζ hb1;have j5:=ζ (qi.out.trans (hb1.mono qi.out.size));clear hb1;have hga:=Il ao cap ps w1 (HE.out.later j5.out) hl WX.out;have cm:=ζ hga;clear hga;go_wp2_with (go_at_call 70;refine cm.out.mono ?_;refine aaI ?_);refine ζ ?_;rintro e w2 ⟨D,k,l,hl0,hk,rL,rfl,jH,hown,hb2⟩;have hs1:w.heap.size+1<=w1.heap.size:=by have:=aD.out.size;simpa using this
  have aj1:w1.heap.size<=w2.heap.size:=hb2.size;have aA:=ζ (aD.out.trans (hb2.mono aD.out.size));have bK:=ζ hown;have rF:=ζ jH;have tK:=ζ hl0;clear hl0 jH hown hb2;by_cases hbig:4194304<l.length
  .have hD:(4194304:Int)<(Maps.size D:Int):=by rw[rF.out.size];omega
   have hmb:4194304<(Si.made [] ps).length:=by
    have:=Si.Oi ps k;rw[<-tK.out] at this;omega
   have HM:Hid (Si.mk n ps=(0,[],141)):=by
    show Si.mk n ps=(0,[],141);rw[Nk.out,if_pos hmb]
   have hG:w2.heap[w.heap.size]? =some (.cells #[.int .i64 0,.slice none 0 0] 24 (0,0)):=(aA.out.block _ (by simp)).trans (heap_alloc_new w _);have hs2:=lt_of_block hG;obtain⟨g0,g1,gf⟩:=af hG;have HG:=ζ hG;have rH:=ζ (qi.out.trans (aA.out.mono qi.out.size));clear hG hmb;go_wp2_with (at_len;refine wpList_len_own _ rfl _ _ rfl 66 189 Tryz.underlying130 (unitElem (H:=Unit)) w1.heap.size k D rfl bK.out ?_);obtain⟨r0,r1,-⟩:=af (jA HG.out (.int .i64 0) (.slice none 0 0));refine bodyPost_ret (v:= .tuple #[.agg #[.int .i64 0,.slice none 0 0],.int .i64 141]) (by simp[results,results35,go_sem,r0,r1]) rfl ?_;unfold mP;rw[HM.out];exact⟨_,rfl,aW.nil _ _,(rH.out.setCell (by simp) _).setCell (by simp) _⟩
  .have hD:¬((4194304:Int)<(Maps.size D:Int)):=by rw[rF.out.size];omega
   have hkl:k=ps.length:=by rcases rL with h|h;exact h;exact absurd h hbig
   have hle:l=Si.made [] ps:=by rw[tK.out,hkl,abQ]
   have Af:=ζ hle;have zQ:=Ri w1.heap.size k D l ao cap ps (w.alloc (.cells #[.int .i64 0,.slice none 0 0] 24)) w2 (HE.out.later qi.out) aA.out (by simp;omega) hl WX.out bK.out rF.out (by omega);have YV:=ζ zQ;clear zQ hkl hle rL
   go_wp2_with (first
    |(at_len;refine wpList_len_own _ rfl _ _ rfl 66 189 Tryz.underlying130 (unitElem (H:=Unit)) w1.heap.size k D rfl bK.out ?_)
    |(go_at_call 71;refine YV.out.mono ?_;refine aaI ?_))
   refine ζ ?_;rintro e w3 ⟨g,cp,acc,rfl,htk,hal,hrow,hb3⟩;have aK:=ζ hb3;have fK:=ζ hrow;have JG:=ζ htk;have UM:=Rj _ g cp acc w3 hrow (by omega);have HSO:=ζ UM;have yh:w2.heap.size<=g:=(aaO hrow g rfl).1;clear hb3 hrow htk UM;go_wp2_with (go_at_call 72;refine HSO.out.mono ?_;refine aaI ?_);refine ζ ?_;rintro e w4 ⟨rfl,l',eB,hperm,LB,hrow4,hg4⟩;have vG:l'=Si.made [] ps:=Si.Ik (Si.xL ps) JG.out.nodup (by have:=JG.out;rw[Af.out] at this;exact this.all) hperm LB;have lI:=ζ vG;have hB4:=(aK.out.grown hg4 aK.out.size (fun j hj=>by cases hj;simp;omega));have hG:w4.heap[w.heap.size]? =some (.cells #[.int .i64 0,.slice none 0 0] 24 (0,0)):=(hB4.block _ (by simp)).trans (heap_alloc_new w _);have hs4:=lt_of_block hG;obtain⟨g0,g1,gf⟩:=af hG;have HG:=ζ hG;have ahb:=ζ (qi.out.trans (hB4.mono qi.out.size));have Ac:=ζ hrow4;have HM:Hid (Si.mk n ps=(n,Si.made [] ps,0)):=by
    show Si.mk n ps=_;rw[Nk.out,if_neg (by rw[<-Af.out];exact hbig)]
   clear vG hperm LB hrow4 hg4 hB4 hG;go_wp2;obtain⟨r0,r1,-⟩:=af (jA HG.out (.int .i64 n) (.slice (some ⟨g,0,none⟩) acc.length cp));refine bodyPost_ret (v:= .tuple #[.agg #[.int .i64 n,.slice (some ⟨g,0,none⟩) acc.length cp],.int .i64 0]) (by simp[results,results35,go_sem,r0,r1]) rfl ?_;unfold mP;rw[HM.out];refine⟨_,rfl,?_,(ahb.out.setCell (by simp) _).setCell (by simp) _⟩;have:=Ac.out.adW (A:=w.heap.size) (b:=w.heap.size) (by omega) (.int .i64 n) (.slice (some ⟨g,0,none⟩) acc.length cp);rw[lI.out] at this;exact this
end
section
open Go.RowKit Go.Sort
theorem mR {w:World} {G R:Nat} (hne:G≠R) {a b c d:Value} {t t':TypeId} (hG:w.heap[G]? =some (.cells #[a,b] t (0,0))) (hR:w.heap[R]? =some (.cells #[c,d] t' (0,0))) (a' b' c' d':Value):
 ((((w.setCell ⟨G,0,none⟩ a').setCell ⟨G,1,none⟩ b').setCell ⟨R,0,none⟩ c').setCell ⟨R,1,none⟩ d').heap[G]? =some (.cells #[a',b'] t (0,0))/\((((w.setCell ⟨G,0,none⟩ a').setCell ⟨G,1,none⟩ b').setCell ⟨R,0,none⟩ c').setCell ⟨R,1,none⟩ d').heap[R]? =some (.cells #[c',d'] t' (0,0)):=
 ⟨(eE hne _ _).trans (jA hG a' b'),jA ((eE hne.symm _ _).trans hR) c' d'⟩
end
end Go.Proofs.YtdbjpbjocmcpkaaGreatDoor
